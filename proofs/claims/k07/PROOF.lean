import PyProof.Rows.All
import Wide.All
import OpenK.AllK
import Wide.FinOn
import PyProof.ReprRoads
import HandS.ForMost
import HandS.IsInst
import HandS.Wide
import HandS.WideBits
import HandS.Conv
import HandS.Style
import HandS.Flow
import HandS.Walk
import HandS.Zip
import HandS.Deep
import KE.SortData
import KE.OsSetLaws
import HandS.Text
import HandS.SortInts
import HandS.SetFor
import HandS.Strs
import PySem.Challenge.RW_twinties_k07_whole_least_houses
set_option Elab.async false
set_option linter.all false
set_option maxRecDepth 100000
set_option maxHeartbeats 4000000
/-! Defs whose promise is told where no guard of a repr stands around: a def that asks repr of a list holds its promise there alone. -/
namespace GL
open PySem PySem.Spec PyProof.Rows L2

/-- a def's promise, told of calls around which no repr is under way -/
structure FnG (P : Program) (w : World) (K : PySem.W.Frag) (mg : Str → Option Value) (base : Heap) (CX : CXT) (k : Nat) (f : Addr) (fd : FuncData) (ps : List Str) (sp : Sp) : Prop where
  many : ∀ vs H Q E, sp vs H Q E → vs.length = ps.length
  goes : ∀ (A : Around) (outer : List Env) (s : Shared) (H : Hp) (args : Args) (us : List Value) (vs : List V) (Q : VK) (E : XK), A.guards = some [] → Room k A →
    Env0 P w K mg base A outer s H → BindsTo s fd args (ps.zip us) → Vals vs us → sp vs H Q E → codeAny (model P w) A (.call (.ref f) args) (CR CX outer P w H s Q E) s

section
variable {P : Program} {w : World} {K : PySem.W.Frag} {mg : Str → Option Value} {base : Heap} {CX : CXT} {k : Nat} {f : Addr} {fd : FuncData} {ps : List Str} {sp : Sp}
theorem FnG.of (F : FnOk P w K mg base CX k f fd ps sp) : FnG P w K mg base CX k f fd ps sp := ⟨F.len, fun A o s H a us vs Q E _ => F.run A o s H a us vs Q E⟩
end

section
variable {P : Program} {w : World} {K : PySem.W.Frag} {mg : Str → Option Value} {base : Heap}
/-- the body's walk gives the promise -/
theorem FnG.mk' {x qual : Str} {st : Stmt} {f : Addr} {fd : FuncData} {N ps : List Str} {k : Nat} {sp : Sp} (F : Fun K x qual st f fd) (S : FnScope N ps (defScope st)) (many : ∀ vs H Q E, sp vs H Q E → vs.length = ps.length)
    (walk : ∀ (cdv : Value) (A : Around) (outer : List Env) (s : Shared) (H : Hp) (vs : List V) (Q : VK) (E : XK), A.guards = some [] → Room k (A.deeper (envOfC qual (defScope st) s.heap.objs.size f cdv)) → sp vs H Q E →
      ∃ t, PSs (cxOf CX0 P w K mg base N qual (defScope st) f cdv A outer s H E).nox (defBody st) t ∧ t { nx := fun _ H' => Q .non H', rt := Q } (start N vs) H) : FnG P w K mg base CX0 (k + 1) f fd ps sp := by
  obtain ⟨oc, od, kV, doc, pm, an, cdv, ct, osl, efd, lk, hcd⟩ := F.ex
  subst efd
  refine ⟨many, ?_⟩
  intro A outer s H args us vs Q E hg hr e0 hb rv hsp
  have cnt := many _ _ _ _ hsp
  have up : ∀ b o, base.get? b = some o → s.heap.get? b = some o := fun b o e => (e0.bs b o e).1
  have inK : K.In s.heap := e0.mod.kin.keeps up
  have kinds : ∀ y ∈ ps.zip us, (defScope st).names.lookup y.1 = some .local ∨ ((defScope st).names.lookup y.1 = some .cell ∧ ((cellsFrom (s.heap.objs.size + 1) (defScope st).names []).lookup y.1).isSome = true) := by
    rintro ⟨n, v⟩ hy
    exact (S.par n (List.of_mem_zip hy).1).elim (fun q => .inl q) fun q => .inr ⟨q, PySem.W.cellsFrom_some _ _ _ (.inl q)⟩
  refine codeAny_call_function hr.depth (inK _ _ lk) rfl S.co S.gen rfl (PySem.W.codeRec_of inK hcd) (hb _ _ _ _ (wpAny_newFunctionEnv_cells S.kind kinds fun env he s1 x => ?_))
  subst he
  refine ⟨(e0.mod.nolimit.keeps up).keeps x.toInCall.keep, codeAny_func ?_⟩
  obtain ⟨t, ht, hq⟩ := walk cdv A outer s H vs Q E hg (hr.deeper _) hsp
  refine wpAny_mono (ht.nox.run [] s1 (start N vs) H _ (inv_start S hr.hd e0 cnt rv x) hq) (fun fl s' hs => ?_) fun e s' hs => hs
  cases fl with
  | next => exact let ⟨σ', H', J, q⟩ := hs; ⟨V.non, H', J.os, J.bare, J.base, J.hok, rfl, q⟩
  | ret u => exact let ⟨v, σ', H', J, rr, q⟩ := hs; ⟨v, H', J.os, J.bare, J.base, J.hok, rr, q⟩
  | brk => obtain ⟨σ', H', J, q⟩ := hs; exact q.elim
  | cont => obtain ⟨σ', H', J, q⟩ := hs; exact q.elim
end
end GL

namespace GL
open PySem PySem.Spec PyProof.Rows L2
open L2 (Room)
/-! ### a call of such a def from a body around which no guard stands -/
section
variable {X : Cx} {CX : CXT} {k : Nat} {f : Addr} {fd : FuncData} {ps : List Str} {sp : Sp} {ds : List Value} {dvs : List V} {E : XK} {x : Str} {e : Expr} {es : List Expr} {t : TA} {p pos : Pos}
theorem FnG.used {pins : List (Addr × Obj)} {σ : L2.St} {H : Hp} {s : Shared} {Q : VK} {us : List Value} {vs : List V} (F : FnG X.prog X.w X.K X.mg X.base CX k f fd ps sp) (hg : X.A.guards = some []) (hr : Room k X.A) (hb : Binds X.K fd ps ds)
    (hd : Vals dvs ds) (hx : Passes CX X E) (I : Inv X pins σ H s) (r : Vals vs us) (h : sp (vs ++ dvs) H Q E) : wpAny (model X.prog X.w) X.A (call (.ref f) us) (EP X pins σ Q) X.xe s := by
  have both : Vals (vs ++ dvs) (us ++ ds) := r.append hd
  have cnt : (us ++ ds).length = ps.length := (both.length).symm.trans (F.many _ _ _ _ h)
  refine wpAny_call (codeAny_mono (F.goes X.A X.stack s H ⟨us, []⟩ (us ++ ds) (vs ++ dvs) Q E hg hr I.env0 (hb s us I.kIn cnt) both h) ?_)
  rintro (er | fl) s' q
  · exact hx pins σ H s er s' I q
  · match fl, q with
    | .ret u, q => exact I.after q
theorem pe_callG (F : FnG X.prog X.w X.K X.mg X.base CX k f fd ps sp) (hgd : X.A.guards = some []) (hr : Room k X.A) (hg : Gl X x) (hm : X.mg x = some (.ref f)) (hk : PySem.W.keepIn X.K (.ref f) = true) (hb : Binds X.K fd ps ds) (hd : Vals dvs ds) (hx : Passes CX X E)
    (ha : PA X (e :: es) t) (hdb : (x == ("__debug__" : Str)) = false := by decide) (he : starEach (e :: es) X.env = (false, eval e X.env) :: starEach es X.env := by rfl) (hpl : (backTo pos (starEach es X.env)).any (·.1) = false := by rfl) :
    PE X (.Call (.Name x p) (e :: es) [] pos) (tCall sp dvs E t) :=
  ⟨fun pins s σ H Q I h => wpAny_Call_Name_kw (ld_glob I hg hm (PySem.W.callWith_K (h₀ := X.base) I.ok.mod.kin hk (thn (ha.run pos pins s σ H _ I h) fun us s1 hh => by
    obtain ⟨vs, H1, I1, r, q⟩ := hh
    exact ⟨I1.kIn, F.used hgd hr hb hd hx I1 r q⟩) he hpl) hdb)⟩
end
/-! ### the end -/
theorem law_callG {P : Program} {w : World} {K : PySem.W.Frag} {mg mb : Str → Option Value} {k : Nat} {fa a : Addr} {fd : FuncData} {x : Str} {sp : Sp} {s₁ : Shared} {vs : List Value} {ns : List Int}
    (KX : K.In s₁.heap) (hns : s₁.heap.Ns mainGlobals mg) (hb : s₁.heap.Ns builtinsNs mb) (hbb : ∀ x : Str, x ≠ "__name__" → mb x = bootBuiltins x) (hlim : s₁.heap.NoLimit) (hgen : s₁.gens = #[])
    (ha : s₁.heap.get? a = some { cls := .type "list", data := .seq vs.toArray }) (hi : IntsAre vs ns) (hl : ns.length ≤ sizeLine) (hr : Room k callerA)
    (F : ∀ base : Heap, K.In base → base.Ns mainGlobals mg → FnG P w K mg base CX0 k fa fd [x] sp) (hbind : ∀ (s : Shared) (u : Value), BindsTo s fd ⟨[u], []⟩ [(x, u)])
    (hsp : ∀ H : Hp, Only H → SqL K H a (ns.map V.int) → sp [.ref a] H (fun v _ => v = .bl true) fun _ _ _ => False) :
    codeAny (model P w) callerA (.call (.ref fa) ⟨[.ref a], []⟩) (fun r s' => r = .ok (.ret (.bool true)) ∧ OldK s₁.heap s'.heap ∧ s'.os = s₁.os ∧ AllBare s'.gens) s₁ := by
  have vals := vals_ints hi
  have cnt := hi.length
  -- whichever heap of tracked things holds the script alone
  suffices main : ∀ H : Hp, Only H → SqL K H a (ns.map V.int) → HOk P w H s₁.heap → (∀ b, H b ≠ none → b = a ∧ K.lookup a = none) →
      codeAny (model P w) callerA (.call (.ref fa) ⟨[.ref a], []⟩) (fun r s' => r = .ok (.ret (.bool true)) ∧ OldK s₁.heap s'.heap ∧ s'.os = s₁.os ∧ AllBare s'.gens) s₁ by
    by_cases hk : ∃ o, K.lookup a = some o
    · obtain ⟨o, hk⟩ := hk
      have eo : o = { cls := .type "list", data := .seq vs.toArray } := Option.some.inj ((KX a o hk).symm.trans ha)
      subst eo
      exact main (fun _ => none) (fun _ => Or.inl rfl) (Or.inr ⟨_, vs.toArray, _, hk, rfl, rfl, rfl, by rw [List.size_toArray, cnt]; exact hl, by simpa using vals⟩) (fun b u z => nomatch (show (none : Option HO) = some u from z)) fun b z => (z rfl).elim
    · have hk0 : K.lookup a = none := by
        cases q : K.lookup a with
        | none => rfl
        | some o => exact (hk ⟨o, q⟩).elim
      refine main (fun b => if b = a then some (.frz { cls := .type "list", data := .seq vs.toArray } (.lst (ns.map V.int))) else none) ?_ (Or.inl (Or.inr ⟨_, if_pos rfl⟩)) ?_ ?_
      · intro b
        by_cases e : b = a
        · exact Or.inr ⟨_, _, if_pos e⟩
        · exact Or.inl (if_neg e)
      · intro b u z
        by_cases e : b = a
        · subst e
          have z' := Option.some.inj ((if_pos rfl).symm.trans z)
          subst z'
          exact ⟨ha, by rw [List.length_map]; exact hl, vs, _, vals, ha⟩
        · exact nomatch ((if_neg e).symm.trans z : (none : Option HO) = some u)
      · intro b z
        by_cases e : b = a
        · exact ⟨e, hk0⟩
        · exact (z (if_neg e)).elim
  intro H hO hS hok hA
  have free : ∀ {b : Addr} {o : Obj} {es : Array DictEntry} {ep : Nat}, s₁.heap.get? b = some o → o.data = .dict es ep → H b = none := by
    intro b o es ep e d
    cases q : H b with
    | none => rfl
    | some u =>
      have eb := (hA b (by rw [q]; exact fun z => nomatch z)).1
      subst eb
      have eo := Option.some.inj (ha.symm.trans e)
      subst eo
      exact nomatch (show Data.seq vs.toArray _ = Data.dict es ep from d)
  have space : ∀ {b : Addr} {m : Str → Option Value}, s₁.heap.Ns b m → (hidT s₁.heap H).Ns b m := by
    rintro b m ⟨o, es, ep, e, d, r⟩
    exact ⟨o, es, ep, hidT_get e (free e d), d, r⟩
  have inB : K.In (hidT s₁.heap H) := by
    intro b o e
    refine hidT_get (KX b o e) ?_
    cases q : H b with
    | none => rfl
    | some u =>
      obtain ⟨eb, n⟩ := hA b (by rw [q]; exact fun z => nomatch z)
      subst eb
      exact nomatch (n.symm.trans e)
  have md : Mod K mg (hidT s₁.heap H) := ⟨inB, space hns, ⟨mb, space hb, hbb⟩, by obtain ⟨mc, h1, h2⟩ := hlim; exact ⟨mc, space h1, h2⟩⟩
  have en : Env0 P w K mg (hidT s₁.heap H) callerA [] s₁ H :=
    { frames := rfl, mod := md, bs := fun b o e => of_hidT e, bsz := Nat.le_of_eq (hidT_size _ _), funs := trivial, frf := fun b z => (List.not_mem_nil z).elim, hok := hok, bare := .of_eq hgen }
  refine codeAny_mono ((F _ inB (space hns)).goes callerA [] s₁ H ⟨[.ref a], []⟩ [.ref a] [.ref a] _ _ rfl hr en (hbind s₁ (.ref a)) (.cons rfl .nil) (hsp H hO hS)) ?_
  rintro (er | fl) s' h
  · exact (show False from h).elim
  · match fl, h with
    | .ret u, h =>
      obtain ⟨v, H', os, bare, un, hok', rr, q⟩ := h
      have ev : v = .bl true := q
      subst ev
      have eu : u = Value.bool true := rr
      subst eu
      refine ⟨rfl, OldK.of_keep ?_, os, bare⟩
      intro b o e
      rcases hO b with z | ⟨ob, xs, z⟩
      · exact un.keep b o e z (fun z => (List.not_mem_nil z).elim) (fun z => (List.not_mem_nil z).elim)
      · have e1 := (hok b _ z).1
        have e2 := (hok' b _ (un.frzs b ob _ z)).1
        exact e2.trans (e1.symm.trans e)
theorem walk_ofG {l : PySem.W.OpenLaw} {n k : Nat} {q : Program} {loose : List Str} {XP : (Str → Option Value) → Heap → Prop} {YP : World → Heap → Prop} {d : DefRec} {K : Params → PySem.W.Frag} {sp : PySem.W.Frag → Sp} {x : Str}
    (hn : l.most = some n) (hn2 : n ≤ sizeLine) (hdf : d.params.defaults = []) (hr : Room k callerA) (hY : ∀ (w : World) (h : Heap), YP w h → (K w.params).In h)
    (F : ∀ (w : World) (mg : Str → Option Value) (fa : Addr) (h : Heap), (K w.params).In h → h.Ns mainGlobals mg → mg d.name = some (.ref fa) →
      ∃ fd : FuncData, (∀ (s : Shared) (u : Value), BindsTo s fd ⟨[u], []⟩ [(x, u)]) ∧ ∀ base : Heap, (K w.params).In base → base.Ns mainGlobals mg → FnG l.prog w (K w.params) mg base CX0 k fa fd [x] (sp (K w.params)))
    (hsp : ∀ (K : PySem.W.Frag) (H : Hp) (a : Addr) (ns : List Int), ns.length ≤ n → Only H → SqL K H a (ns.map V.int) → sp K [.ref a] H (fun v _ => v = .bl true) fun _ _ _ => False) :
    PySem.W.WalkO q loose XP YP l.row.toRowW d [] (fun f vs => PySem.call f vs) := by
  refine Att.attach_call hn hdf ?_
  intro w s₀ s₁ mg mb fa o pm cd doc a vs ns G Y ho hd hcd hmg hobj hints hlen hgen
  obtain ⟨fd, hb, hF⟩ := F w mg fa _ (hY w _ Y) G.T.g hmg
  exact law_callG (hY w _ Y) G.T.g G.T.b G.T.builtins G.T.nolimit hgen hobj hints (Nat.le_trans hlen hn2) hr hF hb fun H hO hS => hsp _ H a ns hlen hO hS

/-! ### data -/
mutual
/-- x stands for the datum d: lists, tuples, empty dicts -/
inductive Dt (K : PySem.W.Frag) (H : Hp) : V → PyData → Prop
  | non : Dt K H .non .none
  | bl (b : Bool) : Dt K H (.bl b) (.bool b)
  | int (i : Int) : Dt K H (.int i) (.int i)
  | str (x : Str) : Dt K H (.str x) (.str x)
  | lst {a : Addr} {xs : List V} {ds : List PyData} : H a = some (.lst xs) → Dts K H xs ds → Dt K H (.ref a) (.list ds)
  | tup {a : Addr} {xs : List V} {ds : List PyData} : H a = some (.tup xs) → Dts K H xs ds → Dt K H (.ref a) (.tuple ds)
  | dct {a : Addr} : H a = some (.dK []) → Dt K H (.ref a) (.dict [])
inductive Dts (K : PySem.W.Frag) (H : Hp) : List V → List PyData → Prop
  | nil : Dts K H [] []
  | cons {v : V} {vs : List V} {d : PyData} {ds : List PyData} : Dt K H v d → Dts K H vs ds → Dts K H (v :: vs) (d :: ds)
end
section
variable {X : Cx} {pins : List (Addr × Obj)} {σ : L2.St} {H : Hp} {s : Shared}
theorem Dt.obL {K : PySem.W.Frag} {a : Addr} {xs : List V} (I : Inv X pins σ H s) (h : H a = some (.lst xs)) : ∃ (its : List Value) (n : Nat), Vals xs its ∧ s.heap.get? a = some { cls := .type "list", data := .seq its.toArray n } :=
  let ⟨_, its, n, rv, ho⟩ := (show ObjOk X.prog X.w H s.heap a (.lst xs) from I.hok _ _ h)
  ⟨its, n, rv, ho⟩
theorem Dt.obT {a : Addr} {xs : List V} (I : Inv X pins σ H s) (h : H a = some (.tup xs)) : ∃ (its : List Value) (o : Obj) (n : Nat), Vals xs its ∧ s.heap.get? a = some o ∧ o.cls = .type "tuple" ∧ o.data = .seq its.toArray n :=
  let ⟨_, its, rv, o, h1, h2, n, h3⟩ := (show ObjOk X.prog X.w H s.heap a (.tup xs) from I.hok _ _ h)
  ⟨its, o, n, rv, h1, h2, h3⟩
theorem Dt.obD {a : Addr} (I : Inv X pins σ H s) (h : H a = some (.dK [])) : ∃ (o : Obj) (n : Nat), s.heap.get? a = some o ∧ o.cls = .type "dict" ∧ o.data = .dict #[] n ∧ (a == sysModules) = false := by
  obtain ⟨_, hsys, vs, hv, o, es, ep, h1, h2, h3, _, h4, _⟩ := (show ObjOk X.prog X.w H s.heap a (.dK []) from I.hok _ _ h)
  cases hv
  have e : es = #[] := by
    cases es with
    | mk l => 
      have z : l = [] := by
        cases h4
        rfl
      rw [z]
  subst e
  exact ⟨o, ep, h1, h2.1, h3, hsys⟩
mutual
theorem Dt.reads (I : Inv X pins σ H s) : ∀ (d : PyData) (v : V) (u : Value), Dt X.K H v d → RelV v u → ∃ as, Reads s.heap u d as
  | .none, _, _, h, r => by
    cases h
    cases r
    exact ⟨_, .none⟩
  | .bool b, _, _, h, r => by
    cases h
    cases r
    exact ⟨_, .bool b⟩
  | .int i, _, _, h, r => by
    cases h
    obtain ⟨t, rfl⟩ := r
    exact ⟨_, .int i t⟩
  | .str x, _, _, h, r => by
    cases h
    obtain ⟨t, rfl⟩ := r
    exact ⟨_, .str x t⟩
  | .list ds, v, _, h, r => by
    cases h with
    | lst hs ha =>
      cases r
      obtain ⟨its, n, rv, ho⟩ := Dt.obL (K := X.K) I hs
      obtain ⟨as, hr⟩ := Dt.readsAll I ds _ its ha rv
      exact ⟨_, .list ho rfl rfl hr⟩
  | .tuple ds, _, _, h, r => by
    cases h with
    | tup hs ha =>
      cases r
      obtain ⟨its, o, n, rv, h1, h2, h3⟩ := Dt.obT I hs
      obtain ⟨as, hr⟩ := Dt.readsAll I ds _ its ha rv
      exact ⟨_, .tuple h1 h2 h3 hr⟩
  | .dict kvs, _, _, h, r => by
    cases h with
    | dct hs =>
      cases r
      obtain ⟨o, n, h1, h2, h3, _⟩ := Dt.obD I hs
      exact ⟨_, .dict h1 h2 h3 .nil .nil⟩
theorem Dt.readsAll (I : Inv X pins σ H s) : ∀ (ds : List PyData) (vs : List V) (us : List Value), Dts X.K H vs ds → Vals vs us → ∃ as, ReadsAll s.heap us ds as
  | [], _, _, h, r => by
    cases h
    cases r
    exact ⟨_, .nil⟩
  | d :: ds, _, _, h, r => by
    cases h with
    | cons h1 h2 =>
      cases r with
      | cons r1 r2 =>
        obtain ⟨as, q1⟩ := Dt.reads I d _ _ h1 r1
        obtain ⟨bs, q2⟩ := Dt.readsAll I ds _ _ h2 r2
        exact ⟨_, .cons q1 q2⟩
end
theorem dictText_nil : dictText [] = ("{}" : Str) := by decide +kernel
mutual
theorem Dt.rep (I : Inv X pins σ H s) : ∀ (d : PyData) (v : V) (u : Value), Dt X.K H v d → RelV v u → d.showable = true → d.shown.length ≤ sizeLine → ∃ bs, ReadAtMost s.heap d.depth bs ∧ ReprK X.prog X.w bs s.heap d.depth u d.shown
  | .none, _, _, h, r, _, _ => by
    cases h
    cases r
    exact ⟨[], (fun _ z => nomatch z), by simp only [PyData.shown]; exact .of_is ReprIs.none _ _ _⟩
  | .bool b, _, _, h, r, _, _ => by
    cases h
    cases r
    exact ⟨[], (fun _ z => nomatch z), by simp only [PyData.shown]; exact .of_is (ReprIs.bool b) _ _ _⟩
  | .int i, _, _, h, r, hs, _ => by
    cases h
    obtain ⟨t, rfl⟩ := r
    exact ⟨[], (fun _ z => nomatch z), by simp only [PyData.shown]; exact .of_is (ReprIs.int t (by simpa [PyData.showable] using hs)) _ _ _⟩
  | .str x, _, _, h, r, _, hz => by
    cases h
    obtain ⟨t, rfl⟩ := r
    exact ⟨[], (fun _ z => nomatch z), by simp only [PyData.shown]; exact .of_is (ReprIs.str x t (by simpa only [PyData.shown] using hz)) _ _ _⟩
  | .list ds, v, u, h, r, hs, hz => by
    obtain ⟨as0, whole⟩ := Dt.reads I (.list ds) v u h r
    have hz' : (listText (PyData.shownAll ds)).length ≤ sizeLine := by simpa only [PyData.shown] using hz
    cases h with
    | lst hh ha =>
      cases r
      obtain ⟨its, n, rv, ho⟩ := Dt.obL (K := X.K) I hh
      obtain ⟨bs, hb, hk⟩ := Dt.repAll I ds _ its ha rv (by simpa [PyData.showable] using hs) fun t ht => Nat.le_trans (listText_mem_le ht) hz'
      have out := not_mem_of_deeper whole (n := PyData.depthAll ds) (by simp only [PyData.depth]; omega) hb
      refine ⟨_ :: bs, ReadAtMost.cons whole (by simp only [PyData.depth]; omega) hb, ?_⟩
      simp only [PyData.depth, PyData.shown]
      cases its with
      | nil =>
        cases rv
        cases ha
        simp only [PyData.shownAll, listText_nil]
        exact ReprK.listEmpty ho rfl rfl
      | cons x l => exact ReprK.list ho rfl rfl out (by simpa using hk.length_eq) fun i y e => hk.item i y (by simpa using e)
  | .tuple ds, v, u, h, r, hs, hz => by
    obtain ⟨as0, whole⟩ := Dt.reads I (.tuple ds) v u h r
    have hz' : (tupleText (PyData.shownAll ds)).length ≤ sizeLine := by simpa only [PyData.shown] using hz
    cases h with
    | tup hh ha =>
      cases r
      obtain ⟨its, o, n, rv, h1, h2, h3⟩ := Dt.obT I hh
      obtain ⟨bs, hb, hk⟩ := Dt.repAll I ds _ its ha rv (by simpa [PyData.showable] using hs) fun t ht => Nat.le_trans (tupleText_mem_le ht) hz'
      have out := not_mem_of_deeper whole (n := PyData.depthAll ds) (by simp only [PyData.depth]; omega) hb
      refine ⟨_ :: bs, ReadAtMost.cons whole (by simp only [PyData.depth]; omega) hb, ?_⟩
      simp only [PyData.depth, PyData.shown]
      exact ReprK.tuple h1 h2 h3 out hk
  | .dict kvs, v, u, h, r, hs, hz => by
    obtain ⟨as0, whole⟩ := Dt.reads I (.dict kvs) v u h r
    cases h with
    | dct hh =>
      cases r
      obtain ⟨o, n, h1, h2, h3, h4⟩ := Dt.obD I hh
      refine ⟨[_], ReadAtMost.cons whole (Nat.le_refl _) (fun _ z => nomatch z), ?_⟩
      simp only [PyData.depth, PyData.shown, PyData.shownKv]
      exact ReprK.dict h1 h2 h3 h4 (by simp) .nil
theorem Dt.repAll (I : Inv X pins σ H s) : ∀ (ds : List PyData) (vs : List V) (us : List Value), Dts X.K H vs ds → Vals vs us → PyData.showableAll ds = true → (∀ t ∈ PyData.shownAll ds, t.length ≤ sizeLine) →
    ∃ bs, ReadAtMost s.heap (PyData.depthAll ds) bs ∧ ReprAllK X.prog X.w bs s.heap (PyData.depthAll ds) us (PyData.shownAll ds)
  | [], _, _, h, r, _, _ => by
    cases h
    cases r
    exact ⟨[], (fun _ z => nomatch z), by simp only [PyData.shownAll]; exact .nil⟩
  | d :: ds, _, _, h, r, hs, hz => by
    have hs' : d.showable = true ∧ PyData.showableAll ds = true := by simpa [PyData.showableAll] using hs
    cases h with
    | cons h1 h2 =>
      cases r with
      | cons r1 r2 =>
        obtain ⟨b1, hb1, k1⟩ := Dt.rep I d _ _ h1 r1 hs'.1 (hz _ (by simp [PyData.shownAll]))
        obtain ⟨b2, hb2, k2⟩ := Dt.repAll I ds _ _ h2 r2 hs'.2 fun t ht => hz t (by simp [PyData.shownAll, ht])
        refine ⟨b1 ++ b2, fun b hm => ?_, ?_⟩
        · rcases List.mem_append.mp hm with z | z
          · obtain ⟨d', as', r', q⟩ := hb1 b z
            exact ⟨d', as', r', Nat.le_trans q (by simp only [PyData.depthAll]; omega)⟩
          · obtain ⟨d', as', r', q⟩ := hb2 b z
            exact ⟨d', as', r', Nat.le_trans q (by simp only [PyData.depthAll]; omega)⟩
        · simp only [PyData.depthAll, PyData.shownAll]
          exact .cons ((k1.more fun b z => List.mem_append_left _ z).level_le (by omega)) (k2.more_le (fun b z => List.mem_append_right _ z) (by omega))
end
/-- repr(x), x data -/
def rRepD (K : PySem.W.Frag) : List V → Hp → VK → Prop := fun xs H Q => ∃ x d, xs = [x] ∧ Dt K H x d ∧ d.showable = true ∧ d.shown.length ≤ sizeLine ∧ d.depth ≤ 60 ∧ Q (.str d.shown) H
theorem call_repD (hg : X.A.guards = some []) (hu : X.A.units + 64 < cLine) : CallR X (.builtin "repr") (rRepD X.K) := by
  intro pins s σ H xs us Q I r h
  obtain ⟨x, d, rfl, hd, hs, hz, hn, q⟩ := h
  obtain ⟨u, rfl, r1⟩ := vals1 r
  have back : ∀ (h' : Heap) (t : Tok) (tk : Nat), (∀ b o, s.heap.get? b = some o → h'.get? b = some o) → EP X pins σ Q (.str d.shown t) { s with heap := h', toks := tk } := fun h' t tk k =>
    ⟨.str d.shown, H, I.kept k, ⟨t, rfl⟩, q⟩
  cases d with
  | none =>
    cases hd
    cases r1
    exact PySem.P.repr_of_none (back _ _ _ fun _ _ e => e)
  | bool b =>
    cases hd
    cases r1
    exact PySem.P.repr_of_bool (back _ _ _ fun _ _ e => e)
  | int i =>
    cases hd
    obtain ⟨t, rfl⟩ := r1
    exact PySem.P.repr_of_int (by simpa [PyData.showable] using hs) (back _ _ _ fun _ _ e => e)
  | str y =>
    cases hd
    obtain ⟨t, rfl⟩ := r1
    exact PySem.P.repr_of_str (back _ _ _ fun _ _ e => e) (by simpa only [PyData.shown] using hz)
  | list ds =>
    obtain ⟨as0, whole⟩ := Dt.reads I (.list ds) x u hd r1
    have hz' : (listText (PyData.shownAll ds)).length ≤ sizeLine := by simpa only [PyData.shown] using hz
    cases hd with
    | lst hh ha =>
      cases r1
      obtain ⟨its, n, rv, ho⟩ := Dt.obL (K := X.K) I hh
      obtain ⟨bs, hb, hk⟩ := Dt.repAll I ds _ its ha rv (by simpa [PyData.showable] using hs) fun t ht => Nat.le_trans (listText_mem_le ht) hz'
      have out := not_mem_of_deeper whole (n := PyData.depthAll ds) (by simp only [PyData.depth]; omega) hb
      simp only [PyData.depth] at hn
      refine call_repr_slot (by omega) ⟨_, ho, rfl⟩ F.slot_list_repr.toG ?_
      cases its with
      | nil =>
        cases rv
        cases ha
        simp only [PyData.shown, PyData.shownAll, listText_nil] at back
        exact call_list_repr_empty ⟨_, ho, rfl⟩ ho rfl ⟨_, _, rfl, back s.heap _ _ fun _ _ e => e⟩
      | cons y l =>
        simp only [PyData.shown] at back
        exact call_list_reprK ho rfl rfl out (by simpa using hk.length_eq) (fun i y e => hk.item i y (by simpa using e)) hg (fun b _ => Clear.nil b) (by show X.A.units + 1 + _ < _; omega) (fun _ _ e => e) (fun h' u tk k => ⟨_, _, rfl, back h' u tk k⟩) hz'
  | tuple ds =>
    obtain ⟨as0, whole⟩ := Dt.reads I (.tuple ds) x u hd r1
    have hz' : (tupleText (PyData.shownAll ds)).length ≤ sizeLine := by simpa only [PyData.shown] using hz
    cases hd with
    | tup hh ha =>
      cases r1
      obtain ⟨its, o, n, rv, h1, h2, h3⟩ := Dt.obT I hh
      obtain ⟨bs, hb, hk⟩ := Dt.repAll I ds _ its ha rv (by simpa [PyData.showable] using hs) fun t ht => Nat.le_trans (tupleText_mem_le ht) hz'
      have out := not_mem_of_deeper whole (n := PyData.depthAll ds) (by simp only [PyData.depth]; omega) hb
      simp only [PyData.depth] at hn
      simp only [PyData.shown] at back
      exact call_repr_slot (by omega) ⟨o, h1, h2⟩ F.slot_tuple_repr (call_tuple_reprK h1 h2 h3 out hk hg (fun b _ => Clear.nil b) (by show X.A.units + 1 + _ < _; omega) (fun _ _ e => e) (fun h' u tk k => ⟨_, _, rfl, back h' u tk k⟩) hz')
  | dict kvs =>
    cases hd with
    | dct hh =>
      cases r1
      obtain ⟨o, n, h1, h2, h3, h4⟩ := Dt.obD I hh
      simp only [PyData.shown, PyData.shownKv] at back hz
      exact call_repr_slot (by omega) ⟨o, h1, h2⟩ F.slot_dict_repr (call_dict_reprK (as := []) (d := 0) h1 h2 h3 h4 (by simp) .nil hg (fun b _ => Clear.nil b) (by show X.A.units + 1 + _ < _; omega) (fun _ _ e => e) (fun h' u tk k => ⟨_, _, rfl, back h' u tk k⟩) hz)
end
end GL

namespace GL
open PySem PySem.Spec PyProof.Rows L2
/-! ### a def of the text, ready to be called -/
structure Use (P : Program) (w : World) (K : PySem.W.Frag) (mg : Str → Option Value) (base : Heap) (x : Str) (ps : List Str) (sp : Sp) (k : Nat) : Prop where
  ex : ∃ f fd, FnOk P w K mg base CX0 k f fd ps sp ∧ mg x = some (.ref f) ∧ PySem.W.keepIn K (.ref f) = true ∧ Binds K fd ps []
structure UseG (P : Program) (w : World) (K : PySem.W.Frag) (mg : Str → Option Value) (base : Heap) (x : Str) (ps : List Str) (sp : Sp) (k : Nat) : Prop where
  ex : ∃ f fd, FnG P w K mg base CX0 k f fd ps sp ∧ mg x = some (.ref f) ∧ PySem.W.keepIn K (.ref f) = true ∧ Binds K fd ps []
section
variable {X : Cx} {ps : List Str} {sp : Sp} {x : Str} {e : Expr} {es : List Expr} {t : TA} {p pos : Pos} {k : Nat}
theorem pe_use (U : Use X.prog X.w X.K X.mg X.base x ps sp k) (hr : Room k X.A) (hg : Gl X x) (ha : PA X (e :: es) t)
    (hdb : (x == ("__debug__" : Str)) = false := by decide) (he : starEach (e :: es) X.env = (false, eval e X.env) :: starEach es X.env := by rfl) (hpl : (backTo pos (starEach es X.env)).any (·.1) = false := by rfl) :
    PE X (.Call (.Name x p) (e :: es) [] pos) (tCall sp [] E0 t) := by
  obtain ⟨f, fd, F, hm, hk, hb⟩ := U.ex
  exact pe_call F hr hg hm hk hb .nil pass0 ha hdb he hpl
theorem pe_useG (U : UseG X.prog X.w X.K X.mg X.base x ps sp k) (hgd : X.A.guards = some []) (hr : Room k X.A) (hg : Gl X x) (ha : PA X (e :: es) t)
    (hdb : (x == ("__debug__" : Str)) = false := by decide) (he : starEach (e :: es) X.env = (false, eval e X.env) :: starEach es X.env := by rfl) (hpl : (backTo pos (starEach es X.env)).any (·.1) = false := by rfl) :
    PE X (.Call (.Name x p) (e :: es) [] pos) (tCall sp [] E0 t) := by
  obtain ⟨f, fd, F, hm, hk, hb⟩ := U.ex
  exact pe_callG F hgd hr hg hm hk hb .nil pass0 ha hdb he hpl
/-- f(k = v, ..), nothing by place -/
theorem pe_kws {CX : CXT} {f : Addr} {fd : FuncData} {ks : List Str} {E : XK} {kws : List Keyword} {tk : TA} {g : List Value → List Value → List Value} {gV : List V → List V → List V}
    (F : FnOk X.prog X.w X.K X.mg X.base CX k f fd ps sp) (hr : Room k X.A) (hg : Gl X x) (hm : X.mg x = some (.ref f)) (hk : PySem.W.keepIn X.K (.ref f) = true) (hb : KBinds X.K fd ps ks g gV) (hx : Passes CX X E) (hkw : PK X kws tk)
    (hall : (backToKw pos (keywordEach kws X.env)).all (·.1.isSome) = true := by rfl) (hks : (backToKw pos (keywordEach kws X.env)).filterMap (·.1) = ks := by rfl) (hdb : (x == ("__debug__" : Str)) = false := by decide)
    (hpl : ((backTo pos (starEach [] X.env)).any (·.1) || (backToKw pos (keywordEach kws X.env)).any (·.1.isNone)) = false := by rfl) :
    PE X (.Call (.Name x p) [] kws pos) (tCallK sp gV E tNil tk) :=
  ⟨fun pins s σ H Q I h => wpAny_Call_Name_kw (ld_glob I hg hm (PySem.W.callWith_KW0 (h₀ := X.base) I.ok.mod.kin hk hall (thn (hkw.run pos pins s σ H _ I h) fun ws s2 hh => by
    obtain ⟨zs, H2, I2, rz, q2⟩ := hh
    refine ⟨I2.kIn, ?_⟩
    rw [hks]
    exact run_fnk F hr hb hx I2 .nil rz q2) hpl) hdb)⟩
end
/-! ### rules -/
section
variable {X : Cx} {pos : Pos}
def CPowW (i j : Int) : Prop := 0 ≤ j ∧ (Builtin.Int.intBits i : Int) * j ≤ 2 ^ 27
theorem op_powW : OpR X (binaryOp .Pow) (rI CPowW fun i j => .int (i ^ j.toNat)) := opI fun _ _ _ _ _ _ _ hc q => pow_int hc.1 hc.2 q
/-- xs != ys, ys an empty list -/
def rNeNil (K : PySem.W.Frag) : R2 := fun x y H Q => ∃ a b xs, x = .ref a ∧ y = .ref b ∧ SqL K H a xs ∧ SqL K H b [] ∧ Q (.bl (!xs.isEmpty)) H
theorem op_neNil (hu : X.A.units + 64 < cLine) : OpR X (compareOp .NotEq) (rNeNil X.K) := by
  intro pins s σ H x y v u Q I rx ry h
  obtain ⟨a, b, xs, rfl, rfl, ha, hb, q⟩ := h
  cases rx
  cases ry
  obtain ⟨is, ra, pa, _⟩ := I.list ha
  obtain ⟨js, rb, pb, _⟩ := I.list hb
  cases rb
  cases xs with
  | nil =>
    cases ra
    exact (SeqAt.RcNeAt.lists (e := fun _ => true) pa.isList pb.isList rfl (by omega) (fun j h1 => absurd h1 (by simp))) _ _ _ _ ⟨.bl _, H, I, rfl, q⟩
  | cons z zs =>
    cases ra with
    | cons r1 r2 => exact (SeqAt.RcNeAt.lists_lengths pa.isList pb.isList (by simp) (by omega)) _ _ _ _ ⟨.bl _, H, I, rfl, q⟩
/-- xs[::0 - 1] -/
theorem pe_revB {e : Expr} {te : TE} {k k2 : Nat} {p1 p2 p3 p4 : Pos} (he : PE X e te) : PE X (.Subscript e (.Slice none none (some (.BinOp (.Constant (.int 0) k p1) .Sub (.Constant (.int 1) k2 p4) p2)) p3) pos) (tRevL X.K te) := by
  refine ⟨fun pins s σ H Q I h => Subscript_ (thn (he.run pins s σ H _ I h) ?_)⟩
  rintro v s1 ⟨x, H1, I1, r1, a, xs, rfl, hx, q⟩
  cases r1
  have back : PO X (some (.BinOp (.Constant (.int 0) k p1) .Sub (.Constant (.int 1) k2 p4) p2)) (tPart (tOp (rI0 fun i j => .int (i - j)) (tC (.int 0)) (tC (.int 1)))) := po_some (pe_op op_sub pe_int pe_int)
  refine wpAny_Slice (thn (po_none.run pins s1 σ H1 (fun o H2 => o = none ∧ H2 = H1) I1 ⟨rfl, rfl⟩) ?_)
  rintro vl s2 ⟨l, H2, I2, pl, rfl, rfl⟩
  refine thn (po_none.run pins s2 σ H2 (fun o H3 => o = none ∧ H3 = H2) I2 ⟨rfl, rfl⟩) ?_
  rintro vu s3 ⟨u, H3, I3, pu, rfl, rfl⟩
  refine thn (back.run pins s3 σ H3 (fun o H4 => o = some (-1) ∧ H4 = H3) I3 ⟨0, 1, rfl, rfl, -1, rfl, rfl, rfl⟩) ?_
  rintro vs s4 ⟨o, H4, I4, ps, rfl, rfl⟩
  have I5 : Inv X pins σ H4 { s4 with heap := s4.heap.push { cls := .type "slice", data := .fields #[vl, vu, vs] } } := I4.kept (t' := s4.toks) fun b ob q => Heap.get?_push_of_some _ q
  obtain ⟨its, r, ht, hz⟩ := I5.list hx
  have cnt := r.length
  refine tail_any (ops := [.ref a, .ref s4.heap.objs.size]) ht.isList.typeIs PySem.slot_list_getitem.lookup (wpAny_getItem_list_slice ht.isList (Heap.IsSliceOf.new _ vl vu vs) pl pu ps (by decide) ?_ (by rw [List.size_toArray]; omega)) (by with_unfolding_all rfl)
  rw [PySem.W.krv_pick]
  exact ⟨.ref _, _, I5.laid (t' := s4.toks) (o := .lst xs.reverse) (fun b ob q => Heap.get?_push_of_some _ q) (Nat.le_refl _) ⟨by rw [List.length_reverse]; exact hz, _, 0, r.reverse, Heap.get?_push_size _ rfl⟩, rfl, q _ (I5.hok.fresh (Nat.le_refl _))⟩
end
end GL

namespace GL
open PySem PySem.Spec PyProof.Rows L2
theorem same_new {p : Addr} {H : Hp} {o : HO} (h : H p = none) : Same H (upd H p o) := fun b u e => by rw [upd_ne (ne_of_none e h)]; exact e
mutual
theorem Dt.same {K : PySem.W.Frag} {H H' : Hp} (s : Same H H') : ∀ (d : PyData) (v : V), Dt K H v d → Dt K H' v d
  | .none, _, h => by cases h; exact .non
  | .bool b, _, h => by cases h; exact .bl b
  | .int i, _, h => by cases h; exact .int i
  | .str x, _, h => by cases h; exact .str x
  | .list ds, _, h => by
    cases h with
    | lst e a => exact .lst (s _ _ e) (Dts.same s ds _ a)
  | .tuple ds, _, h => by
    cases h with
    | tup e a => exact .tup (s _ _ e) (Dts.same s ds _ a)
  | .dict kvs, _, h => by
    cases h with
    | dct e => exact .dct (s _ _ e)
theorem Dts.same {K : PySem.W.Frag} {H H' : Hp} (s : Same H H') : ∀ (ds : List PyData) (vs : List V), Dts K H vs ds → Dts K H' vs ds
  | [], _, h => by cases h; exact .nil
  | d :: ds, _, h => by
    cases h with
    | cons a b => exact .cons (Dt.same s d _ a) (Dts.same s ds _ b)
end
theorem Dts.length {K : PySem.W.Frag} {H : Hp} : ∀ {vs : List V} {ds : List PyData}, Dts K H vs ds → vs.length = ds.length
  | _, _, .nil => rfl
  | _, _, .cons _ b => congrArg (· + 1) b.length
theorem Dts.get {K : PySem.W.Frag} {H : Hp} : ∀ {vs : List V} {ds : List PyData} {i : Nat} {v : V}, Dts K H vs ds → vs[i]? = some v → ∃ d, ds[i]? = some d ∧ Dt K H v d
  | _, _, i, v, .nil, e => by simp at e
  | _, _, 0, v, .cons a _, e => by
    cases e
    exact ⟨_, rfl, a⟩
  | _, _, i + 1, v, .cons _ b, e => b.get (i := i) (v := v) e
theorem Dts.append {K : PySem.W.Frag} {H : Hp} : ∀ {vs ws : List V} {ds es : List PyData}, Dts K H vs ds → Dts K H ws es → Dts K H (vs ++ ws) (ds ++ es)
  | _, _, _, _, .nil, z => z
  | _, _, _, _, .cons a b, z => .cons a (b.append z)
def tyOf : PyData → String
  | .none => "NoneType" | .bool _ => "bool" | .int _ => "int" | .str _ => "str" | .list _ => "list" | .tuple _ => "tuple" | .dict _ => "dict"
theorem Dt.ty {K : PySem.W.Frag} {H : Hp} {x : V} {d : PyData} (h : Dt K H x d) : TyX K H x (.type (tyOf d)) := by
  cases h with
  | non => exact .base .non
  | bl b => exact .base (.bl b)
  | int i => exact .base (.int i)
  | str x => exact .base (.str x)
  | lst e _ => exact .base (.lst e)
  | tup e _ => exact .base (.tup e)
  | dct e => exact .base (.dK e)
def isInt : PyData → Bool
  | .bool _ => true | .int _ => true | _ => false
def isBool : PyData → Bool
  | .bool _ => true | _ => false
def isList : PyData → Bool
  | .list _ => true | _ => false
theorem kit_int {K : PySem.W.Frag} (d : PyData) : PySem.W.kitOne K (.type (tyOf d)) (.type "int") = some (isInt d) := by
  cases d with
  | none => exact kit_ty (show kitB "NoneType" "int" = some false by decide +kernel)
  | bool _ => exact kit_ty (show kitB "bool" "int" = some true by decide +kernel)
  | int _ => exact kit_ty (show kitB "int" "int" = some true by decide +kernel)
  | str _ => exact kit_ty (show kitB "str" "int" = some false by decide +kernel)
  | list _ => exact kit_ty (show kitB "list" "int" = some false by decide +kernel)
  | tuple _ => exact kit_ty (show kitB "tuple" "int" = some false by decide +kernel)
  | dict _ => exact kit_ty (show kitB "dict" "int" = some false by decide +kernel)
theorem kit_bool {K : PySem.W.Frag} (d : PyData) : PySem.W.kitOne K (.type (tyOf d)) (.type "bool") = some (isBool d) := by
  cases d with
  | none => exact kit_ty (show kitB "NoneType" "bool" = some false by decide +kernel)
  | bool _ => exact kit_ty (show kitB "bool" "bool" = some true by decide +kernel)
  | int _ => exact kit_ty (show kitB "int" "bool" = some false by decide +kernel)
  | str _ => exact kit_ty (show kitB "str" "bool" = some false by decide +kernel)
  | list _ => exact kit_ty (show kitB "list" "bool" = some false by decide +kernel)
  | tuple _ => exact kit_ty (show kitB "tuple" "bool" = some false by decide +kernel)
  | dict _ => exact kit_ty (show kitB "dict" "bool" = some false by decide +kernel)
theorem kit_list {K : PySem.W.Frag} (d : PyData) : PySem.W.kitOne K (.type (tyOf d)) (.type "list") = some (isList d) := by
  cases d with
  | none => exact kit_ty (show kitB "NoneType" "list" = some false by decide +kernel)
  | bool _ => exact kit_ty (show kitB "bool" "list" = some false by decide +kernel)
  | int _ => exact kit_ty (show kitB "int" "list" = some false by decide +kernel)
  | str _ => exact kit_ty (show kitB "str" "list" = some false by decide +kernel)
  | list _ => exact kit_ty (show kitB "list" "list" = some true by decide +kernel)
  | tuple _ => exact kit_ty (show kitB "tuple" "list" = some false by decide +kernel)
  | dict _ => exact kit_ty (show kitB "dict" "list" = some false by decide +kernel)
theorem yes_of {σ : L2.St} {H : Hp} {A B : Bool → Hp → Prop} (h : A true H) : tYes σ H (fun b H' => if b = true then A b H' else B b H') := by
  show (if true = true then A true H else B true H)
  exact iteT h
end GL

/-! Data whose repr is known to fit: leaves, and lists and tuples of at most fifty things, three deep. -/
namespace GL
open PySem PySem.Spec PyProof.Rows L2
def Leaf : PyData → Prop
  | .none => True
  | .bool _ => True
  | .int i => i.natAbs < 2 ^ 100
  | .str x => (reprText x).length ≤ 110
  | .dict kvs => kvs = []
  | _ => False
def Nice : Nat → PyData → Prop
  | 0, d => Leaf d
  | n + 1, d => Leaf d ∨ ∃ ds, (d = .list ds ∨ d = .tuple ds) ∧ ds.length ≤ 50 ∧ ∀ e ∈ ds, Nice n e
theorem Nice.leaf {n : Nat} {d : PyData} (h : Leaf d) : Nice n d := by
  cases n with
  | zero => exact h
  | succ n => exact .inl h
theorem Nice.up {n : Nat} {d : PyData} (h : Nice n d) : Nice (n + 1) d := by
  induction n generalizing d with
  | zero => exact .inl h
  | succ n ih =>
    rcases h with h | ⟨ds, e, l, a⟩
    · exact .inl h
    · exact .inr ⟨ds, e, l, fun x hx => ih (a x hx)⟩
theorem Nice.list {n : Nat} {ds : List PyData} (l : ds.length ≤ 50) (a : ∀ e ∈ ds, Nice n e) : Nice (n + 1) (.list ds) := .inr ⟨ds, .inl rfl, l, a⟩
theorem Nice.tuple {n : Nat} {ds : List PyData} (l : ds.length ≤ 50) (a : ∀ e ∈ ds, Nice n e) : Nice (n + 1) (.tuple ds) := .inr ⟨ds, .inr rfl, l, a⟩
theorem textFrom_le : ∀ (ts : List Str) (k : Nat) (acc : Str), (textFrom k acc ts).length ≤ acc.length + piled ts
  | [], k, acc => Nat.le_refl _
  | t :: r, k, acc => by
    have ih := textFrom_le r (k + 1) (acc ++ (if k > 0 then ", " else "" : String) ++ t)
    rw [strLen_append, strLen_append] at ih
    rw [piled_cons]
    show (textFrom (k + 1) (acc ++ (if k > 0 then ", " else "" : String) ++ t) r).length ≤ _
    have e : (Str.ofString (if k > 0 then ", " else "" : String)).length ≤ 2 := by
      by_cases h : k > 0
      · rw [if_pos h]
        exact Nat.le_of_eq rfl
      · rw [if_neg h]
        exact Nat.zero_le _
    omega
theorem listText_le (ts : List Str) : (listText ts).length ≤ 2 + piled ts := by
  unfold listText
  rw [strLen_append]
  have := textFrom_le ts 0 "["
  have e1 : (Str.ofString "[").length = 1 := rfl
  have e2 : (Str.ofString "]").length = 1 := rfl
  omega
theorem tupleText_le (ts : List Str) : (tupleText ts).length ≤ 3 + piled ts := by
  unfold tupleText
  rw [strLen_append, strLen_append]
  have e1 : (Str.ofString "(").length = 1 := rfl
  have e2 : (Str.ofString (if ts.length == 1 then ",)" else ")" : String)).length ≤ 2 := by
    by_cases h : (ts.length == 1) = true
    · rw [if_pos h]
      exact Nat.le_of_eq rfl
    · rw [if_neg h]
      exact Nat.le_succ _
  cases ts with
  | nil =>
    have e3 : (Str.join ", " ([] : List Str)).length = 0 := rfl
    omega
  | cons t r =>
    have := join_length_add (t :: r) (by simp)
    omega
theorem piled_le {B : Nat} : ∀ {ds : List PyData}, (∀ e ∈ ds, e.shown.length ≤ B) → piled (PyData.shownAll ds) ≤ ds.length * (B + 2)
  | [], _ => Nat.zero_le _
  | d :: ds, h => by
    have ih := piled_le (ds := ds) (B := B) fun e he => h e (List.mem_cons_of_mem _ he)
    have h0 := h d (List.mem_cons_self ..)
    simp only [PyData.shownAll]
    rw [piled_cons, List.length_cons, Nat.add_mul]
    omega
def Bound : Nat → Nat
  | 0 => 110
  | n + 1 => 3 + 50 * (Bound n + 2)
theorem Bound.up (n : Nat) : 110 ≤ Bound n := by
  induction n with
  | zero => exact Nat.le_refl _
  | succ n ih =>
    show 110 ≤ 3 + 50 * (Bound n + 2)
    omega
theorem log_of {i : Int} (h : i.natAbs < 2 ^ 100) : i.natAbs.log2 < 100 := PySem.Flt.log2_lt_of (by decide) h
theorem Leaf.shown {d : PyData} (h : Leaf d) : d.shown.length ≤ 110 ∧ d.showable = true ∧ d.depth ≤ 1 := by
  cases d with
  | none => exact ⟨by simp only [PyData.shown]; decide, by simp only [PyData.showable], by simp only [PyData.depth]; omega⟩
  | bool b => exact ⟨by simp only [PyData.shown]; cases b <;> decide, by simp only [PyData.showable], by simp only [PyData.depth]; omega⟩
  | int i =>
    have l := log_of h
    refine ⟨?_, by simp only [PyData.showable]; exact decide_eq_true (by omega), by simp only [PyData.depth]; omega⟩
    simp only [PyData.shown]
    have := int_text_length_le (k := 100) (by decide) l
    rw [PySem.ofString_length]
    omega
  | str x => exact ⟨by simp only [PyData.shown]; exact h, by simp only [PyData.showable], by simp only [PyData.depth]; omega⟩
  | dict kvs =>
    have e : kvs = [] := h
    subst e
    exact ⟨by simp only [PyData.shown, PyData.shownKv]; decide, by simp only [PyData.showable, PyData.showableKv], by simp only [PyData.depth, PyData.depthKv]; omega⟩
  | list ds => exact h.elim
  | tuple ds => exact h.elim
theorem showableAll_of : ∀ {ds : List PyData}, (∀ e ∈ ds, e.showable = true) → PyData.showableAll ds = true
  | [], _ => by simp only [PyData.showableAll]
  | d :: ds, h => by
    simp only [PyData.showableAll]
    rw [h d (List.mem_cons_self ..), showableAll_of fun e he => h e (List.mem_cons_of_mem _ he)]
    rfl
theorem depthAll_of {n : Nat} : ∀ {ds : List PyData}, (∀ e ∈ ds, e.depth ≤ n) → PyData.depthAll ds ≤ n
  | [], _ => by simp only [PyData.depthAll]; omega
  | d :: ds, h => by
    simp only [PyData.depthAll]
    have h0 := h d (List.mem_cons_self ..)
    have ih := depthAll_of (n := n) fun e he => h e (List.mem_cons_of_mem _ he)
    omega
theorem Nice.shown : ∀ {n : Nat} {d : PyData}, Nice n d → d.shown.length ≤ Bound n ∧ d.showable = true ∧ d.depth ≤ n + 1
  | 0, d, h => by
    obtain ⟨a, b, c⟩ := Leaf.shown h
    exact ⟨a, b, by omega⟩
  | n + 1, d, h => by
    rcases h with h | ⟨ds, e, l, a⟩
    · obtain ⟨x, y, z⟩ := Leaf.shown h
      exact ⟨Nat.le_trans x (Bound.up _), y, by omega⟩
    · have m : ds.length * (Bound n + 2) ≤ 50 * (Bound n + 2) := Nat.mul_le_mul_right _ l
      have pl := piled_le (B := Bound n) fun x hx => (Nice.shown (a x hx)).1
      have sh := showableAll_of fun x hx => (Nice.shown (a x hx)).2.1
      have dp := depthAll_of (n := n + 1) fun x hx => (Nice.shown (a x hx)).2.2
      rcases e with rfl | rfl
      · refine ⟨?_, by simp only [PyData.showable]; exact sh, by simp only [PyData.depth]; omega⟩
        simp only [PyData.shown]
        have := listText_le (PyData.shownAll ds)
        show _ ≤ 3 + 50 * (Bound n + 2)
        omega
      · refine ⟨?_, by simp only [PyData.showable]; exact sh, by simp only [PyData.depth]; omega⟩
        simp only [PyData.shown]
        have := tupleText_le (PyData.shownAll ds)
        show _ ≤ 3 + 50 * (Bound n + 2)
        omega
theorem Nice.fits {d : PyData} (h : Nice 3 d) : d.showable = true ∧ d.shown.length ≤ sizeLine ∧ d.depth ≤ 60 := by
  obtain ⟨a, b, c⟩ := h.shown
  refine ⟨b, Nat.le_trans a ?_, by omega⟩
  rw [sizeLine_eq]
  decide
/-! ### what is tracked, but for one thing -/
def hid (H : Hp) (g : Addr) : Hp := fun b => if b = g then none else H b
theorem hid_ne {H : Hp} {g b : Addr} (h : b ≠ g) : hid H g b = H b := if_neg h
theorem hid_same {H : Hp} {g : Addr} : Same (hid H g) H := fun b o e => by
  by_cases h : b = g
  · unfold hid at e
    rw [if_pos h] at e
    cases e
  · rw [hid_ne h] at e
    exact e
theorem hid_none {H : Hp} {g b : Addr} {o : HO} (h : hid H g b = some o) : b ≠ g := fun z => by
  unfold hid at h
  rw [if_pos z] at h
  cases h
end GL

namespace GL
open PySem PySem.Spec PyProof.Rows L2
theorem dpAll_ints {K : PySem.W.Frag} {H : Hp} : ∀ ns : List Int, DpAll K H (ns.map V.int) (ns.map PyData.int)
  | [] => .nil
  | n :: ns => .cons (.int n) (dpAll_ints ns)
/-- a row of numbers, as data -/
def rowP (ns : List Int) : PyData := .list (ns.map PyData.int)
theorem dp_row {K : PySem.W.Frag} {H : Hp} {a : Addr} {ns : List Int} (h : SqL K H a (ns.map V.int)) : Dp K H (.ref a) (rowP ns) := .lst h (dpAll_ints ns)
def rSortedL (K : PySem.W.Frag) : List V → Hp → VK → Prop := fun vs H Q => ∃ (a : Addr) (ts : List (Addr × List Int)), vs = [.ref a] ∧ SqL K H a (ts.map fun t => V.ref t.1) ∧ (∀ t ∈ ts, SqL K H t.1 (t.2.map V.int)) ∧
  ∀ p, H p = none → Q (.ref p) (upd H p (.lst ((ts.mergeSort fun x y => decide (x.2 ≤ y.2)).map fun t => V.ref t.1)))
theorem each_refs {ts : List (Addr × List Int)} : ∀ {its : List Value}, Vals (ts.map fun t => V.ref t.1) its → PySem.W.EachIs (fun v (b : Addr × List Int) => v = Value.ref b.1) its ts := by
  induction ts with
  | nil =>
    intro its h
    cases h
    exact .nil
  | cons t ts ih =>
    intro its h
    cases h with
    | cons r h => exact .cons r (ih h)
theorem refs_each {ts : List (Addr × List Int)} : ∀ {its : List Value}, PySem.W.EachIs (fun v (b : Addr × List Int) => v = Value.ref b.1) its ts → Vals (ts.map fun t => V.ref t.1) its := by
  induction ts with
  | nil =>
    intro its h
    cases h
    exact .nil
  | cons t ts ih =>
    intro its h
    cases h with
    | cons r h => exact .cons r (ih h)
theorem each_of {R : Value → Addr × List Int → Prop} {ts : List (Addr × List Int)} : ∀ {its : List Value}, PySem.W.EachIs (fun v (b : Addr × List Int) => v = Value.ref b.1) its ts → (∀ t ∈ ts, R (.ref t.1) t) → PySem.W.EachIs R its ts := by
  induction ts with
  | nil =>
    intro its h _
    cases h
    exact .nil
  | cons t ts ih =>
    intro its h q
    cases h with
    | cons r h =>
      subst r
      exact .cons (q t (List.mem_cons_self ..)) (ih h fun t' ht => q t' (List.mem_cons_of_mem _ ht))
section
variable {X : Cx}
theorem cr_sortedL (hu : X.A.units + 64 < cLine) : CallR X (.builtin "sorted") (rSortedL X.K) := by
  intro pins s σ H vs us Q I r h
  obtain ⟨a, ts, rfl, hs, hx, q⟩ := h
  obtain ⟨its, rv, hl, hz⟩ := I.list hs
  obtain ⟨u, rfl, ru⟩ := vals1 r
  obtain rfl : u = Value.ref a := ru
  have e := each_refs rv
  refine PySem.W.sorted_data (enc := fun b : Addr × List Int => rowP b.2) (R := fun v b => v = Value.ref b.1) hl.isList e (each_of e fun t ht => Dp.reads I _ _ _ (dp_row (hx t ht)) rfl)
    (PySem.W.AllAlike.of fun b b' => ?_) (PySem.W.Sortable.others fun b => ⟨fun z => (by cases z), fun xs z => (by cases z)⟩) (by rw [← List.length_map (as := ts) (f := fun t => V.ref t.1)]; exact hz) (fun b hb => ?_) fun out ho eo => ?_
  · unfold rowP
    simp only [PySem.W.alike]
    exact PySem.W.alike_ints _ _
  · have d1 : (rowP b.2).depth ≤ 2 := by
      unfold rowP
      simp only [PyData.depth]
      have := PySem.W.depth_ints b.2
      omega
    omega
  · have eo' : (ts.mergeSort (PySem.W.dataLe false fun b => rowP b.2)) = ts.mergeSort fun x y => decide (x.2 ≤ y.2) := by
      have := PySem.W.dataLe_rows (β := Addr × List Int) fun b => b.2
      unfold rowP
      rw [this]
    rw [eo'] at eo
    obtain ⟨c, hc⟩ := sortedAll_at s.heap its out.toArray
    refine ⟨.ref (s.heap.objs.size + 1), upd H (s.heap.objs.size + 1) _, I.laid (t' := s.toks) (o := .lst ((ts.mergeSort fun x y => decide (x.2 ≤ y.2)).map fun t => V.ref t.1)) (fun b o q => sortedAll_old q) (Nat.le_succ _) ⟨?_, out, c, refs_each eo, hc⟩, rfl, q _ (I.hok.fresh (Nat.le_succ _))⟩
    rw [List.length_map, (List.mergeSort_perm ts _).length_eq, ← List.length_map (as := ts) (f := fun t => V.ref t.1)]
    exact hz
end
/-! ### how many unlike numbers -/
def alikeAll (ns : List Int) : Bool := ns.all fun z => z == ns.headD 0
def tLenSetV (K : PySem.W.Frag) (ta : TE) : TE := fun σ H Q => ta σ H fun x H1 => ∃ (l : Addr) (ns : List Int), x = .ref l ∧ SqL K H1 l (ns.map V.int) ∧ ns.length ≤ 4000 ∧ ∀ n : Nat, ((n ≤ 1) ↔ (∀ x ∈ ns, ∀ y ∈ ns, x = y)) → Q (.int n) H1
theorem dups_ne {a : Int} {l : List Int} (h : a ∈ l) : l.eraseDups ≠ [] := fun e => by
  have := (PySem.W.oss_has (l := l) (x := a)).2 h
  rw [PySem.W.oss_dups, e] at this
  cases this
theorem met_one {ns : List Int} : (firstMet (fun i => ns.getD i 0) ns.length).length ≤ 1 ↔ (∀ x ∈ ns, ∀ y ∈ ns, x = y) := by
  rw [PySem.W.oss_met, PySem.W.oss_dups]
  cases ns with
  | nil => simp
  | cons a r =>
    rw [List.eraseDups_cons, List.length_cons]
    constructor
    · intro h
      have e : (r.filter fun x => !x == a).eraseDups = [] := List.length_eq_zero_iff.mp (by omega)
      have z : ∀ x ∈ r, x = a := fun x hx => by
        by_cases c : x = a
        · exact c
        · exact (dups_ne (l := r.filter fun x => !x == a) (List.mem_filter.mpr ⟨hx, by simp [c]⟩) e).elim
      have z' : ∀ x ∈ a :: r, x = a := fun x hx => by
        rcases List.mem_cons.mp hx with hx | hx
        · exact hx
        · exact z x hx
      exact fun x hx y hy => (z' x hx).trans (z' y hy).symm
    · intro h
      have e : (r.filter fun x => !x == a) = [] := List.filter_eq_nil_iff.mpr fun x hx => by
        have := h x (List.mem_cons_of_mem _ hx) a (List.mem_cons_self ..)
        simp [this]
      rw [e]
      exact Nat.le_refl _
theorem pe_lenSetV {X : Cx} {a : Expr} {ta : TE} {p p2 q pos : Pos} (hg : Gl X "len") (hm : X.mg "len" = none) (hg2 : Gl X "set") (hm2 : X.mg "set" = none) (ha : PE X a ta) (hc : X.calm = true := by rfl)
    (na : starEach [a] X.env = (false, eval a X.env) :: starEach [] X.env := by rfl) : PE X (.Call (.Name "len" p) [.Call (.Name "set" p2) [a] [] q] [] pos) (tLenSetV X.K ta) := by
  refine ⟨fun pins s σ H Q I h => ?_⟩
  refine Call_ (ld_blt I hg hm boot_len ?_)
  refine PyProof.Rows.callWith_builtin1 (PyProof.Rows.args_cons ?_ rfl) rfl rfl
  refine Call_ (ld_blt I hg2 hm2 (show bootBuiltins "set" = some (.type "set") by decide +kernel) ?_)
  refine PyProof.Rows.callWith_type1 (PyProof.Rows.args_cons (thn (ha.run pins s σ H _ I h) fun v s1 ⟨x, H1, I1, r1, q1⟩ => PyProof.Rows.args_nil ?_) na) na rfl
  obtain ⟨l, ns, rfl, hq, hl, q1⟩ := q1
  cases r1
  obtain ⟨its, r, pl, hz⟩ := I1.list hq
  have hlen : its.toArray.size = ns.length := by rw [List.size_toArray, ← r.length, List.length_map]
  refine call_set_list (I1.ok.hd hc) pl.isList (by simpa using RZ.intsAre_vals r) (by rw [hlen]; unfold scanBound; omega) fun h' tk hS hk => ?_
  refine PyProof.Rows.args_nil ?_
  have b := firstMet_length_le (fun i => ns.getD i 0) ns.length
  rw [hlen] at hS
  obtain ⟨o, es, ep, t, ho, hex, hd, _, _, _, hf, hn⟩ := hS
  have I2 : Inv X pins σ H1 { s1 with heap := h', toks := tk } := I1.kept fun b o e => hk b o (Heap.lt_size e) e
  exact call_len_set ho hex hd hf (by rw [hn] <;> omega) ⟨.int (firstMet (fun i => ns.getD i 0) ns.length).length, H1, I2.tok _, ⟨_, by rw [hn]⟩, q1 _ met_one⟩
/-! ### rows compared -/
theorem eqv_ints : ∀ xs ys : List Int, PyData.eqvAll (xs.map PyData.int) (ys.map PyData.int) = decide (xs = ys)
  | [], [] => by simp [PyData.eqvAll]
  | [], y :: ys => by simp [PyData.eqvAll]
  | x :: xs, [] => by simp [PyData.eqvAll]
  | x :: xs, y :: ys => by
    simp only [List.map_cons, PyData.eqvAll, PyData.eqv]
    rw [eqv_ints xs ys]
    by_cases h1 : x = y
    · subst h1
      simp
    · simp [h1]
theorem eqv_row (xs ys : List Int) : PyData.eqv (rowP xs) (rowP ys) = decide (xs = ys) := by
  unfold rowP
  simp only [PyData.eqv]
  exact eqv_ints xs ys
def tabP (kss : List (List Int)) : PyData := .list (kss.map rowP)
theorem eqv_rows : ∀ xs ys : List (List Int), PyData.eqvAll (xs.map rowP) (ys.map rowP) = decide (xs = ys)
  | [], [] => by simp [PyData.eqvAll]
  | [], y :: ys => by simp [PyData.eqvAll]
  | x :: xs, [] => by simp [PyData.eqvAll]
  | x :: xs, y :: ys => by
    simp only [List.map_cons, PyData.eqvAll]
    rw [eqv_rows xs ys, eqv_row]
    by_cases h1 : x = y
    · subst h1
      simp
    · simp [h1]
theorem eqv_tab (xs ys : List (List Int)) : PyData.eqv (tabP xs) (tabP ys) = decide (xs = ys) := by
  unfold tabP
  simp only [PyData.eqv]
  exact eqv_rows xs ys
theorem lay_ints : ∀ xs : List Int, PyData.canLayAll0 (xs.map PyData.int) = true
  | [] => by simp [PyData.canLayAll0]
  | x :: xs => by
    simp only [List.map_cons, PyData.canLayAll0, PyData.canLay0]
    rw [lay_ints xs]
    rfl
theorem lay_row (xs : List Int) : PyData.canLay0 (rowP xs) = true := by
  unfold rowP
  simp only [PyData.canLay0]
  exact lay_ints xs
theorem lay_rows : ∀ xs : List (List Int), PyData.canLayAll0 (xs.map rowP) = true
  | [] => by simp [PyData.canLayAll0]
  | x :: xs => by
    simp only [List.map_cons, PyData.canLayAll0]
    rw [lay_rows xs, lay_row]
    rfl
theorem depth_row (xs : List Int) : (rowP xs).depth ≤ 1 := by
  unfold rowP
  simp only [PyData.depth]
  have := PySem.W.depth_ints xs
  omega
theorem depth_rows (xs : List (List Int)) : (tabP xs).depth ≤ 2 := by
  unfold tabP
  simp only [PyData.depth]
  have := depthAll_of (n := 1) (ds := xs.map rowP) fun e he => by
    obtain ⟨x, _, rfl⟩ := List.mem_map.mp he
    exact depth_row x
  omega
theorem shaped_row (xs : List Int) : SeqAt.shaped (rowP xs) = true := by
  unfold SeqAt.shaped
  rw [lay_row, decide_eq_true (Nat.le_trans (depth_row xs) (by decide))]
  rfl
theorem shaped_tab (xs : List (List Int)) : SeqAt.shaped (tabP xs) = true := by
  unfold SeqAt.shaped
  rw [decide_eq_true (Nat.le_trans (depth_rows xs) (by decide))]
  unfold tabP
  simp only [PyData.canLay0]
  rw [lay_rows]
  rfl
theorem any_row (xs : List (List Int)) (y : List Int) : ((xs.map rowP).any fun z => PyData.eqv z (rowP y)) = decide (y ∈ xs) := by
  induction xs with
  | nil => simp
  | cons x xs ih =>
    rw [List.map_cons, List.any_cons, ih, eqv_row]
    by_cases h : x = y
    · subst h
      simp
    · have h' : y ≠ x := fun z => h z.symm
      simp [h, h']
/-- a list of rows, as data -/
theorem dpAll_rows {K : PySem.W.Frag} {H : Hp} : ∀ {rs : List Addr} {kss : List (List Int)}, rs.length = kss.length → (∀ (i : Nat) r ks, rs[i]? = some r → kss[i]? = some ks → SqL K H r (ks.map V.int)) → DpAll K H (rs.map V.ref) (kss.map rowP)
  | [], [], _, _ => .nil
  | [], _ :: _, l, _ => by simp at l
  | _ :: _, [], l, _ => by simp at l
  | r :: rs, ks :: kss, l, h => .cons (dp_row (h 0 r ks rfl rfl)) (dpAll_rows (Nat.succ.inj l) fun i r' ks' a b => h (i + 1) r' ks' a b)
end GL

namespace GL
/-! ### bits of naturals as sets of people -/
theorem log_set {x : Nat} (h : x ≠ 0) : x.testBit x.log2 = true := Nat.testBit_log2 h
theorem xor_pow {x p j : Nat} : (x ^^^ 2 ^ p).testBit j = (x.testBit j ^^ decide (p = j)) := by rw [Nat.testBit_xor, Nat.testBit_two_pow]
theorem or_pow {x p j : Nat} : (x ||| 2 ^ p).testBit j = (x.testBit j || decide (p = j)) := by rw [Nat.testBit_or, Nat.testBit_two_pow]
/-- just one bit -/
theorem one_bit {x : Nat} (h : x ≠ 0) (e : x &&& (x - 1) = 0) : x = 2 ^ x.log2 := by
  have l := Nat.log2_self_le h
  have u := @Nat.lt_log2_self x
  rcases Nat.lt_or_ge (2 ^ x.log2) x with c | c
  · exfalso
    have b1 := log_set h
    have b2 : (x - 1).testBit x.log2 = true := by
      have h1 : x - 1 ≠ 0 := by
        have := Nat.two_pow_pos x.log2
        omega
      have h2 : (x - 1).log2 = x.log2 := by
        have a1 : x.log2 ≤ (x - 1).log2 := (Nat.le_log2 h1).mpr (by omega)
        have a2 : (x - 1).log2 < x.log2 + 1 := (Nat.log2_lt h1).mpr (by omega)
        omega
      rw [← h2]
      exact log_set h1
    have b3 : (x &&& (x - 1)).testBit x.log2 = true := by rw [Nat.testBit_and, b1, b2]; rfl
    rw [e] at b3
    simp at b3
  · omega
theorem pow_bits (p : Nat) : 2 ^ p &&& (2 ^ p - 1) = 0 := by
  refine Nat.eq_of_testBit_eq fun i => ?_
  rw [Nat.testBit_and, Nat.testBit_two_pow, Nat.testBit_two_pow_sub_one, Nat.zero_testBit]
  by_cases h : p = i
  · subst h
    simp
  · simp [h]
theorem full_bit {n j : Nat} : (2 ^ n - 1).testBit j = decide (j < n) := Nat.testBit_two_pow_sub_one _ _
/-! ### houses by a table of ties -/
section
variable (t : Nat → Nat → Int) (n : Nat)
def HouseP (S : Nat → Prop) : Prop := ∀ p, p < n → ¬ S p → ∀ a b, S a → S b → t p a = t p b
/-- p is in the least house that holds all l -/
def LH (l : Nat → Prop) (p : Nat) : Prop := p < n ∧ ∀ S : Nat → Prop, (∀ x, S x → x < n) → HouseP t n S → (∀ x, l x → S x) → S p
variable {t n} {l : Nat → Prop}
theorem LH.low {p : Nat} (h : LH t n l p) : p < n := h.1
theorem LH.base {p : Nat} (h : l p) (b : p < n) : LH t n l p := ⟨b, fun _ _ _ c => c p h⟩
theorem LH.house : HouseP t n (LH t n l) := fun p hp np a b ha hb => by
  refine Classical.byContradiction fun ne => np ⟨hp, fun S s1 s2 s3 => ?_⟩
  refine Classical.byContradiction fun ns => ne ?_
  exact s2 p hp ns a b (ha.2 S s1 s2 s3) (hb.2 S s1 s2 s3)
theorem LH.tell {a b q : Nat} (ha : LH t n l a) (hb : LH t n l b) (hq : q < n) (ne : t q a ≠ t q b) : LH t n l q :=
  Classical.byContradiction fun nq => ne (LH.house q hq nq a b ha hb)
theorem LH.least {S : Nat → Prop} (s1 : ∀ x, S x → x < n) (s2 : HouseP t n S) (s3 : ∀ x, l x → S x) {p : Nat} (h : LH t n l p) : S p := h.2 S s1 s2 s3
/-! ### growing -/
/-- what the growing keeps: who is held, whom nobody has compared yet -/
structure Gw (t : Nat → Nat → Int) (n : Nat) (l : Nat → Prop) (last held wait : Nat) : Prop where
  inn : ∀ j, held.testBit j = true → LH t n l j
  has : ∀ x, l x → held.testBit x = true
  sub : ∀ j, wait.testBit j = true → held.testBit j = true
  lst : held.testBit last = true
  nol : wait.testBit last = false
  cmp : ∀ p, held.testBit p = true → wait.testBit p = false → ∀ q, q < n → held.testBit q = false → t q p = t q last
/-- who tells the last person from another one -/
structure Tells (t : Nat → Nat → Int) (n last person T : Nat) : Prop where
  of : ∀ q, T.testBit q = true → q < n ∧ (t q last ≠ t q person ∨ q = last ∨ q = person)
  to : ∀ q, q < n → q ≠ last → q ≠ person → t q last ≠ t q person → T.testBit q = true
theorem Gw.start {held : Nat} (h0 : held ≠ 0) (hl : ∀ x, l x ↔ held.testBit x = true) (low : ∀ x, l x → x < n) : Gw t n l held.log2 held (held ^^^ 2 ^ held.log2) where
  inn := fun j h => LH.base ((hl j).mpr h) (low j ((hl j).mpr h))
  has := fun x h => (hl x).mp h
  sub := fun j h => by
    rw [xor_pow] at h
    by_cases e : held.log2 = j
    · rw [← e]
      exact log_set h0
    · simpa [e] using h
  lst := log_set h0
  nol := by rw [xor_pow, log_set h0]; simp
  cmp := fun p h1 h2 q hq hn => by
    rw [xor_pow, h1] at h2
    have e : held.log2 = p := by
      by_cases e : held.log2 = p
      · exact e
      · simp [e] at h2
    rw [e]
theorem Gw.step {last held wait T W : Nat} (g : Gw t n l last held wait) (h0 : wait ≠ 0) (hT : Tells t n last wait.log2 T)
    (hW : ∀ j, W.testBit j = ((wait ^^^ 2 ^ wait.log2).testBit j || (T.testBit j && !held.testBit j))) : Gw t n l last (held ||| T) W := by
  have pw := log_set h0
  have ph := g.sub _ pw
  have inn : ∀ q, T.testBit q = true → LH t n l q := fun q hq => by
    obtain ⟨b, c | c | c⟩ := hT.of q hq
    · exact LH.tell (g.inn _ g.lst) (g.inn _ ph) b c
    · rw [c]
      exact g.inn _ g.lst
    · rw [c]
      exact g.inn _ ph
  refine ⟨fun j h => ?_, fun x h => ?_, fun j h => ?_, ?_, ?_, fun p h1 h2 q hq hn => ?_⟩
  · rw [Nat.testBit_or, Bool.or_eq_true] at h
    exact h.elim (g.inn j) (inn j)
  · rw [Nat.testBit_or, g.has x h]
    rfl
  · rw [hW, xor_pow, Bool.or_eq_true] at h
    rw [Nat.testBit_or, Bool.or_eq_true]
    rcases h with h | h
    · by_cases e : wait.log2 = j
      · rw [← e]
        exact .inl ph
      · exact .inl (g.sub j (by simpa [e] using h))
    · exact .inr (Bool.and_eq_true_iff.mp h).1
  · rw [Nat.testBit_or, g.lst]
    rfl
  · rw [hW, xor_pow, g.nol, g.lst]
    have : wait.log2 ≠ last := fun e => by
      rw [e, g.nol] at pw
      cases pw
    simp [this]
  · rw [Nat.testBit_or, Bool.or_eq_false_iff] at hn
    obtain ⟨n1, n2⟩ := hn
    rw [hW, xor_pow, Bool.or_eq_false_iff] at h2
    obtain ⟨w1, w2⟩ := h2
    cases hp : held.testBit p with
    | true =>
      by_cases e : wait.log2 = p
      · subst e
        refine Classical.byContradiction fun ne => ?_
        have := hT.to q hq (fun z => by rw [z, g.lst] at n1; cases n1) (fun z => by rw [z, ph] at n1; cases n1) fun z => ne z.symm
        rw [n2] at this
        cases this
      · exact g.cmp p hp (by simpa [e] using w1) q hq n1
    | false =>
      rw [Nat.testBit_or, hp] at h1
      rw [hp] at w2
      simp only [Bool.false_or] at h1
      rw [h1] at w2
      cases w2
theorem Gw.done {last held wait : Nat} (g : Gw t n l last held wait) (h : wait = 0 ∨ held = 2 ^ n - 1) (j : Nat) : held.testBit j = true ↔ LH t n l j := by
  refine ⟨g.inn j, fun hj => ?_⟩
  rcases h with rfl | rfl
  · refine LH.least (S := fun j => held.testBit j = true) (fun x hx => (g.inn x hx).low) (fun p hp np a b ha hb => ?_) g.has hj
    have np' : held.testBit p = false := by simpa using np
    rw [g.cmp a ha (Nat.zero_testBit _) p hp np', g.cmp b hb (Nat.zero_testBit _) p hp np']
  · rw [full_bit]
    exact decide_eq_true hj.low
/-! ### the measure -/
def gwf (held wait j : Nat) : Nat := if wait.testBit j then 1 else if held.testBit j then 0 else 2
def gwm (n held wait : Nat) : Nat := ((List.range n).map (gwf held wait)).sum
theorem sum_le {f g : Nat → Nat} : ∀ (xs : List Nat), (∀ j ∈ xs, g j ≤ f j) → (xs.map g).sum ≤ (xs.map f).sum
  | [], _ => Nat.le_refl _
  | x :: xs, h => by
    have := sum_le xs fun j hj => h j (List.mem_cons_of_mem _ hj)
    have := h x (List.mem_cons_self ..)
    simp only [List.map_cons, List.sum_cons]
    omega
theorem sum_lt {f g : Nat → Nat} {p : Nat} : ∀ (xs : List Nat), (∀ j ∈ xs, g j ≤ f j) → p ∈ xs → g p < f p → (xs.map g).sum < (xs.map f).sum
  | [], _, hp, _ => by simp at hp
  | x :: xs, h, hp, lt => by
    simp only [List.map_cons, List.sum_cons]
    have hx := h x (List.mem_cons_self ..)
    have ht := sum_le xs fun j hj => h j (List.mem_cons_of_mem _ hj)
    rcases List.mem_cons.mp hp with rfl | hp
    · omega
    · have := sum_lt xs (fun j hj => h j (List.mem_cons_of_mem _ hj)) hp lt
      omega
theorem Gw.falls {last held wait T W : Nat} (g : Gw t n l last held wait) (h0 : wait ≠ 0)
    (hW : ∀ j, W.testBit j = ((wait ^^^ 2 ^ wait.log2).testBit j || (T.testBit j && !held.testBit j))) : gwm n (held ||| T) W < gwm n held wait := by
  have pw := log_set h0
  have ph := g.sub _ pw
  have pn := (g.inn _ ph).low
  refine sum_lt (p := wait.log2) _ (fun j _ => ?_) (List.mem_range.mpr pn) ?_
  · unfold gwf
    rw [hW, xor_pow, Nat.testBit_or]
    by_cases e : wait.log2 = j
    · subst e
      simp [pw, ph]
    · cases a : wait.testBit j with
      | true => simp [e]
      | false =>
        cases b : held.testBit j with
        | true => simp [e]
        | false => cases T.testBit j <;> simp [e]
  · unfold gwf
    rw [hW, xor_pow, Nat.testBit_or, pw, ph]
    simp
end
end GL

namespace GL
open PySem PySem.Spec PyProof.Rows L2
/-! ### xs[i] op= e, and numbers as sets of people -/
/-- xs[i] by values, for a store that reads first -/
theorem get_list {X : Cx} : PGet X (rIxL X.K) := by
  intro pins s σ H o i ov iv Q I ro ri h
  obtain ⟨p, xs, k, z, rfl, rfl, hq, he, q⟩ := h
  cases ro
  obtain ⟨t, rfl⟩ := ri
  obtain ⟨its, r, pl, hz⟩ := I.list hq
  obtain ⟨j, h1, h2, h3, h4, h5⟩ := atI_get he
  obtain ⟨w, ew, rw'⟩ := r.get h2
  have hl := r.length
  have hn := line63
  have fin : EP X pins σ Q w s := ⟨z, H, I, rw', q⟩
  by_cases h0 : 0 ≤ k
  · have hj : k.toNat = j := by
      rw [seqIndex_of h0 h5] at h1
      exact Option.some.inj h1
    exact wpAny_getItem_list (x := w) pl.isList h0 (by omega) (by rw [hj]; simpa using ew) fin
  · have hj : (k + (its.toArray.size : Int)).toNat = j := by
      rw [seqIndex_neg (by omega) h4] at h1
      rw [List.size_toArray, ← hl]
      exact Option.some.inj h1
    exact wpAny_getItem_list_neg (x := w) pl.isList (by omega) (by rw [List.size_toArray] <;> omega) (by omega) (by rw [hj]; simpa using ew) fin
theorem iand_nn (a b : Nat) : Builtin.bitAnd (a : Int) (b : Int) = ((a &&& b : Nat) : Int) := by
  rw [bitAnd_pp (Int.natCast_nonneg _) (Int.natCast_nonneg _)]
  rfl
theorem ior_nn (a b : Nat) : Builtin.bitOr (a : Int) (b : Int) = ((a ||| b : Nat) : Int) := by
  rw [Bits.bitOr_pp (Int.natCast_nonneg _) (Int.natCast_nonneg _)]
  rfl
theorem ixor_nn (a b : Nat) : Builtin.bitXor (a : Int) (b : Int) = ((a ^^^ b : Nat) : Int) := by
  rw [Bits.bitXor_pp (Int.natCast_nonneg _) (Int.natCast_nonneg _)]
  rfl
theorem one_shl (p : Nat) : (1 : Int) * 2 ^ ((p : Nat) : Int).toNat = ((2 ^ p : Nat) : Int) := by
  rw [Int.toNat_natCast, Int.one_mul]
  exact (PySem.W.kbt_cast p).symm
theorem shr_nat (a p : Nat) : (a : Int) / 2 ^ ((p : Nat) : Int).toNat = ((a >>> p : Nat) : Int) := by
  rw [Int.toNat_natCast, ← PySem.W.kbt_cast p, Nat.shiftRight_eq_div_pow]
  exact (Int.natCast_ediv _ _).symm
theorem shr_bit (a p : Nat) : ((a >>> p) &&& 1) = if a.testBit p then 1 else 0 := by
  have : (a >>> p) &&& 1 = (a >>> p) % 2 := Nat.and_one_is_mod _
  rw [this, Nat.testBit_eq_decide_div_mod_eq, Nat.shiftRight_eq_div_pow]
  have h := Nat.mod_lt (a / 2 ^ p) (y := 2) (by decide)
  by_cases c : a / 2 ^ p % 2 = 1
  · simp [c]
  · simp [c]
    omega
/-- bit_length less 1 -/
theorem bits_log {x : Nat} (h : x ≠ 0) : (Builtin.Int.intBits (x : Int) : Int) - 1 = ((x.log2 : Nat) : Int) := by
  unfold Builtin.Int.intBits
  rw [if_neg (by simpa using (show (x : Int) ≠ 0 by omega)), Int.natAbs_natCast]
  omega
/-- T & ~held -/
theorem and_not (T held : Nat) : ∃ r : Nat, Builtin.bitAnd (T : Int) (Builtin.bitNot (held : Int)) = (r : Int) ∧ ∀ j, r.testBit j = (T.testBit j && !held.testBit j) := by
  have n0 : ¬ 0 ≤ Builtin.bitNot (held : Int) := by
    show ¬ 0 ≤ -(held : Int) - 1
    omega
  have e : Builtin.bitNot (Builtin.bitNot (held : Int)) = (held : Int) := by
    show -(-(held : Int) - 1) - 1 = _
    omega
  have h := bitAnd_pn (Int.natCast_nonneg T) n0
  rw [e] at h
  refine ⟨T - (T &&& held), ?_, fun j => ?_⟩
  · rw [h]
    have := @Nat.and_le_left T held
    simp only [Int.toNat_natCast]
    omega
  · have k : T - (T &&& held) = T ^^^ (T &&& held) := by
      have a1 : (T &&& held) &&& (T ^^^ (T &&& held)) = 0 := Nat.eq_of_testBit_eq fun i => by
        simp only [Nat.testBit_and, Nat.testBit_xor, Nat.zero_testBit]
        cases T.testBit i <;> cases held.testBit i <;> rfl
      have a2 : (T &&& held) ||| (T ^^^ (T &&& held)) = T := Nat.eq_of_testBit_eq fun i => by
        simp only [Nat.testBit_and, Nat.testBit_xor, Nat.testBit_or]
        cases T.testBit i <;> cases held.testBit i <;> rfl
      have a3 : (T &&& held) + (T ^^^ (T &&& held)) = (T &&& held) ||| (T ^^^ (T &&& held)) := by
        have := nat_or_add_and (T &&& held) (T ^^^ (T &&& held))
        omega
      omega
    rw [k, Nat.testBit_xor, Nat.testBit_and]
    cases T.testBit j <;> cases held.testBit j <;> rfl
/-! the same as rules, for numbers that are not negative -/
def rN (f : Nat → Nat → Nat) : R2 := fun x y H Q => ∃ a b : Nat, x = .int (a : Int) ∧ y = .int (b : Int) ∧ Q (.int ((f a b : Nat) : Int)) H
section
variable {X : Cx}
theorem opN_or : OpR X (binaryOp .BitOr) (rN fun a b => a ||| b) := fun pins s σ H x y v u Q I r1 r2 ⟨a, b, e1, e2, q⟩ => op_or pins s σ H x y v u Q I r1 r2 ⟨a, b, e1, e2, by dsimp only; rw [ior_nn]; exact q⟩
theorem opN_and : OpR X (binaryOp .BitAnd) (rN fun a b => a &&& b) := fun pins s σ H x y v u Q I r1 r2 ⟨a, b, e1, e2, q⟩ => op_and pins s σ H x y v u Q I r1 r2 ⟨a, b, e1, e2, by dsimp only; rw [iand_nn]; exact q⟩
theorem opN_xor : OpR X (binaryOp .BitXor) (rN fun a b => a ^^^ b) := fun pins s σ H x y v u Q I r1 r2 ⟨a, b, e1, e2, q⟩ => op_xor pins s σ H x y v u Q I r1 r2 ⟨a, b, e1, e2, by dsimp only; rw [ixor_nn]; exact q⟩
theorem iopN_or : PIp X .BitOr (rN fun a b => a ||| b) := fun pins s σ H x y v u Q I r1 r2 ⟨a, b, e1, e2, q⟩ => iop_or pins s σ H x y v u Q I r1 r2 ⟨a, b, e1, e2, by dsimp only; rw [ior_nn]; exact q⟩
theorem iopN_xor : PIp X .BitXor (rN fun a b => a ^^^ b) := fun pins s σ H x y v u Q I r1 r2 ⟨a, b, e1, e2, q⟩ => iop_xor pins s σ H x y v u Q I r1 r2 ⟨a, b, e1, e2, by dsimp only; rw [ixor_nn]; exact q⟩
theorem iopN_and : PIp X .BitAnd (rN fun a b => a &&& b) := fun pins s σ H x y v u Q I r1 r2 ⟨a, b, e1, e2, q⟩ => iop_and pins s σ H x y v u Q I r1 r2 ⟨a, b, e1, e2, by dsimp only; rw [iand_nn]; exact q⟩
/-- 1 << p -/
theorem opN_shl : OpR X (binaryOp .LShift) (fun x y H Q => ∃ p : Nat, x = .int 1 ∧ y = .int (p : Int) ∧ p ≤ 1000 ∧ Q (.int ((2 ^ p : Nat) : Int)) H) := fun pins s σ H x y v u Q I r1 r2 ⟨p, e1, e2, hp, q⟩ => op_shl pins s σ H x y v u Q I r1 r2 ⟨1, p, e1, e2, ⟨by omega, by omega, by decide⟩, by
  dsimp only
  rw [one_shl]
  exact q⟩
theorem opN_shr : OpR X (binaryOp .RShift) (rN fun a p => a >>> p) := fun pins s σ H x y v u Q I r1 r2 ⟨a, p, e1, e2, q⟩ => op_shr pins s σ H x y v u Q I r1 r2 ⟨a, p, e1, e2, by omega, by
  dsimp only
  rw [shr_nat]
  exact q⟩
/-- T & ~held -/
theorem opN_less : OpR X (binaryOp .BitAnd) (fun x y H Q => ∃ T held : Nat, x = .int (T : Int) ∧ y = .int (Builtin.bitNot (held : Int)) ∧ ∀ r : Nat, (∀ j, r.testBit j = (T.testBit j && !held.testBit j)) → Q (.int (r : Int)) H) := fun pins s σ H x y v u Q I r1 r2 ⟨T, held, e1, e2, q⟩ => by
  obtain ⟨r, er, hr⟩ := and_not T held
  refine op_and pins s σ H x y v u Q I r1 r2 ⟨(T : Int), Builtin.bitNot (held : Int), e1, e2, ?_⟩
  dsimp only
  rw [er]
  exact q r hr
end
/-- an expression of any kind as a test -/
def tTruth (K : PySem.W.Frag) (ta : TE) : TT := fun σ H Q => ta σ H fun x H' => ∃ k, TruV K x H' k ∧ Q k H'
/-- a reading that asks more -/
theorem pe_weak {X : Cx} {e : Expr} {t t' : TE} (h : PE X e t) (w : ∀ σ H Q, t' σ H Q → t σ H Q) : PE X e t' := ⟨fun pins s σ H Q I q => h.run pins s σ H Q I (w σ H Q q)⟩
/-- x.bit_length() - 1: the greatest bit -/
def tTop (to : TE) : TE := fun σ H Q => to σ H fun x H1 => ∃ b : Nat, x = .int (b : Int) ∧ b ≠ 0 ∧ Q (.int ((b.log2 : Nat) : Int)) H1
theorem upd_back {H : Hp} {d : Addr} {u x : HO} (h : H d = some u) : upd (upd H d x) d u = H := by
  funext b
  by_cases c : b = d
  · rw [c, upd_same, h]
  · rw [upd_ne c, upd_ne c]
def natAt (σ : L2.St) (i : Nat) : Nat := match σ[i]? with
  | some (some (.int z)) => z.toNat
  | _ => 0
theorem pe_topV {X : Cx} {e : Expr} {i : Nat} (h : PE X e (tOp (rI0 fun i j => .int (i - j)) (tBits (tVar i)) (tC (.int 1)))) : PE X e (tTop (tVar i)) := pe_weak h fun σ H Q q => by
  obtain ⟨v, e, b, rfl, b0, q⟩ := q
  refine ⟨_, e, _, rfl, _, _, rfl, rfl, ?_⟩
  dsimp only
  rw [bits_log b0]
  exact q
end GL

namespace K07
open PySem PySem.Spec PyProof.Rows L2 GL
def topS (i : Nat) : Stmt := PySem.Challenge.pw_twinties_k07_whole_least_houses.main.body.getD i (.Pass ⟨0, 0, 0, 0⟩)
abbrev sHash : Stmt := topS 25
abbrev sRandom : Stmt := topS 26
abbrev sCell : Stmt := topS 27
abbrev sGen : Stmt := topS 28
/-- the built-in names that the text uses are still the built-in ones -/
structure Bi (mg : Str → Option Value) : Prop where
  int : mg "int" = none
  len : mg "len" = none
  sum : mg "sum" = none
  max : mg "max" = none
  min : mg "min" = none
  range : mg "range" = none
  isinstance : mg "isinstance" = none
  bool : mg "bool" = none
  list : mg "list" = none
  tuple : mg "tuple" = none
  all : mg "all" = none
  enumerate : mg "enumerate" = none
  repr : mg "repr" = none
  zip : mg "zip" = none
  any : mg "any" = none
  set : mg "set" = none
  sorted : mg "sorted" = none
section
variable {P : Program} {w : World} {K : PySem.W.Frag} {mg : Str → Option Value} {base : Heap}
/-! ### numbers drawn -/
theorem scHash : FnScope ["_law_seed", "_law_index", "_law_mixed"] ["_law_seed", "_law_index"] (defScope sHash) := ⟨rfl, rfl, rfl, by decide +kernel, rfl, by decide +kernel, by decide +kernel⟩
def spHash : Sp := fun vs H Q _ => ∃ b c : Int, vs = [.int b, .int c] ∧ 0 ≤ b ∧ b < 2147483647 ∧ 0 ≤ c ∧ c < 1099511627776 ∧ ∀ r : Int, 0 ≤ r → r < 2147483647 → Q (.int r) H
theorem ok_hash {f : Addr} {fd : FuncData} (F : Fun K "_law_hash" "_law_hash" sHash f fd) (T : Bi mg) : FnOk P w K mg base CX0 1 f fd ["_law_seed", "_law_index"] spHash := by
  refine F.ok scHash (fun vs H Q E h => ?_) (fun cdv A outer s H vs Q E hr h => ?_)
  · obtain ⟨b, c, rfl, _⟩ := h
    rfl
  · obtain ⟨b, c, rfl, hb0, hb1, hc0, hc1, q⟩ := h
    refine ⟨_, pss_cons (ps_set (i := 2) scHash.nd rfl (Or.inl rfl) (pe_op op_mod (pe_callTy call_int1 (by rfl) T.int PyProof.Rows.boot_int (pa_cons
        (pe_op op_add (pe_op op_add (pe_op op_add (pe_op op_mul (pv 0) pe_int) (pe_op op_mul (pe_op op_mul pe_int (pv 1)) (pv 1))) (pe_op op_mul pe_int (pv 1))) pe_int) pa_nil)) pe_int))
      (pss_cons (ps_set (i := 2) scHash.nd rfl (Or.inl rfl) (pe_op op_mod (pe_callTy call_int1 (by rfl) T.int PyProof.Rows.boot_int (pa_cons
        (pe_op op_add (pe_op op_add (pe_op op_mul (pv 2) (pv 2)) (pe_op op_mul pe_int (pv 1))) pe_int) pa_nil)) pe_int))
      (pss_one (ps_ret (pe_op op_mod (pe_callTy call_int1 (by rfl) T.int PyProof.Rows.boot_int (pa_cons (pe_op op_mul (pv 2) pe_int) pa_nil)) pe_int)))), ?_⟩
    refine ⟨_, rfl, _, _, rfl, rfl, .inl ⟨by omega, by omega⟩, _, rfl, _, _, rfl, rfl, .inl ⟨by omega, by omega⟩, _, rfl, _, _, rfl, rfl, .inr ⟨by omega, by omega⟩, _, _, rfl, rfl, _, rfl, _, _, rfl, rfl, .inl ⟨by omega, by omega⟩, _, _, rfl, rfl, _, _, rfl, rfl,
      .inl ⟨_, rfl, _, _, rfl, rfl, (by show (0 : Int) < 2147483629; decide), ?_⟩⟩
    generalize hm : (b * 1140671 + 27644437 * c * c + 131 * c + 19) % 2147483629 = m
    have m0 : 0 ≤ m := by rw [← hm]; exact Int.emod_nonneg _ (by decide)
    have m1 : m < 2147483629 := by rw [← hm]; exact Int.emod_lt_of_pos _ (by decide)
    refine ⟨_, rfl, _, rfl, _, _, rfl, rfl, .inl ⟨by omega, by omega⟩, _, rfl, _, _, rfl, rfl, .inl ⟨by omega, by omega⟩, _, _, rfl, rfl, _, _, rfl, rfl,
      .inl ⟨_, rfl, _, _, rfl, rfl, (by show (0 : Int) < 2147483587; decide), ?_⟩⟩
    generalize hn : (m * m + 62089 * c + 32416187) % 2147483587 = n
    have n0 : 0 ≤ n := by rw [← hn]; exact Int.emod_nonneg _ (by decide)
    have n1 : n < 2147483587 := by rw [← hn]; exact Int.emod_lt_of_pos _ (by decide)
    refine ⟨_, rfl, _, _, rfl, rfl, .inl ⟨by omega, by omega⟩, .inl ⟨_, rfl, _, _, rfl, rfl, (by show (0 : Int) < 2147483647; decide), ?_⟩⟩
    exact q _ (Int.emod_nonneg _ (by decide)) (Int.emod_lt_of_pos _ (by decide))
end
end K07

namespace K07
open PySem PySem.Spec PyProof.Rows L2 GL
/-- a list of three numbers that is drawn from: n are the draws' steps that are left -/
def Gen (H : Hp) (g : Addr) (n : Nat) : Prop := ∃ a b c : Int, H g = some (.lst [.int a, .int b, .int c]) ∧ 0 ≤ b ∧ b < 2147483647 ∧ 0 ≤ c ∧ c + n ≤ 1099511627000
theorem Gen.less {H : Hp} {g : Addr} {n m : Nat} (h : Gen H g n) (l : m ≤ n) : Gen H g m := by
  obtain ⟨a, b, c, h1, h2, h3, h4, h5⟩ := h
  exact ⟨a, b, c, h1, h2, h3, h4, by omega⟩
/-- all that was tracked but g is as it was -/
def But (g : Addr) (H H' : Hp) : Prop := ∀ b o, H b = some o → b ≠ g → H' b = some o
theorem But.refl {g : Addr} {H : Hp} : But g H H := fun _ _ e _ => e
theorem But.trans {g : Addr} {H H1 H2 : Hp} (a : But g H H1) (b : But g H1 H2) : But g H H2 := fun c o e n => b c o (a c o e n) n
theorem But.of {g : Addr} {H H' : Hp} (s : Same H H') : But g H H' := fun b o e _ => s b o e
theorem same_new {p : Addr} {H : Hp} {o : HO} (h : H p = none) : Same H (upd H p o) := fun b u e => by rw [upd_ne (ne_of_none e h)]; exact e
theorem But.new {g p : Addr} {H : Hp} {o : HO} (h : H p = none) : But g H (upd H p o) := .of (same_new h)
theorem But.put {g : Addr} {H : Hp} {o : HO} : But g H (upd H g o) := fun b o' e n => by rw [upd_ne n]; exact e
theorem Gen.ne {H : Hp} {g p : Addr} {n : Nat} (h : Gen H g n) (e : H p = none) : g ≠ p := by
  obtain ⟨a, b, c, h1, _⟩ := h
  exact ne_of_none h1 e
theorem Gen.new {H : Hp} {g p : Addr} {n : Nat} {o : HO} (h : Gen H g n) (e : H p = none) : Gen (upd H p o) g n := by
  have ne := h.ne e
  obtain ⟨a, b, c, h1, r⟩ := h
  exact ⟨a, b, c, by rw [upd_ne ne]; exact h1, r⟩
theorem Gen.other {H : Hp} {g p : Addr} {n : Nat} {o : HO} (h : Gen H g n) (ne : p ≠ g) : Gen (upd H p o) g n := by
  obtain ⟨a, b, c, h1, r⟩ := h
  exact ⟨a, b, c, by rw [upd_ne ne.symm]; exact h1, r⟩
section
variable {P : Program} {w : World} {K : PySem.W.Frag} {mg : Str → Option Value} {base : Heap}
theorem scRandom : FnScope ["_law_generator_here", "_law_bound", "_law_drawn", "_law_turn"] ["_law_generator_here", "_law_bound"] (defScope sRandom) := ⟨rfl, rfl, rfl, by decide +kernel, rfl, by decide +kernel, by decide +kernel⟩
def spRandom : Sp := fun vs H Q _ => ∃ (g : Addr) (m : Int) (n : Nat), vs = [.ref g, .int m] ∧ 0 < m ∧ m < 1329227995784915872903807060280344576 ∧ Gen H g (n + 5) ∧
  ∀ (r : Int) (H' : Hp), 0 ≤ r → r < m → Gen H' g n → But g H H' → Q (.int r) H'
theorem bits_le {m : Int} (h0 : 0 < m) (h : m < 1329227995784915872903807060280344576) : (Builtin.Int.intBits m : Int) / 30 ≤ 4 ∧ 0 ≤ (Builtin.Int.intBits m : Int) / 30 := by
  have l : m.natAbs < 2 ^ 120 := by omega
  have b : Builtin.Int.intBits m ≤ 120 := by
    have x := PySem.Flt.log2_lt_of (by decide : 0 < 120) l
    unfold Builtin.Int.intBits
    split <;> omega
  omega
theorem ok_random {f : Addr} {fd : FuncData} (F : Fun K "_law_random" "_law_random" sRandom f fd) (T : Bi mg) (UH : Use P w K mg base "_law_hash" ["_law_seed", "_law_index"] spHash 1) : FnOk P w K mg base CX0 2 f fd ["_law_generator_here", "_law_bound"] spRandom := by
  refine F.ok scRandom (fun vs H Q E h => ?_) (fun cdv A outer s H vs Q E hr h => ?_)
  · obtain ⟨g, m, n, rfl, _⟩ := h
    rfl
  · obtain ⟨g, m, n, rfl, m0, m1, G, q⟩ := h
    refine ⟨_, pss_cons (ps_if (pt_cmpR op_gt (pe_ix ix_list (pv 0) pe_int (fun _ _ => rfl)) pe_int (nomark _))
        (pss_cons (ps_set (i := 2) scRandom.nd rfl (Or.inl rfl) (pe_op op_mod (pe_callTy call_int1 (by rfl) T.int PyProof.Rows.boot_int (pa_cons (pe_ix ix_list (pv 0) pe_int (fun _ _ => rfl)) pa_nil)) (pv 1)))
        (pss_cons (ps_asg (pe_op op_fdivW (pe_ix ix_list (pv 0) pe_int (fun _ _ => rfl)) (pv 1)) (pg_sub (pv 0) pe_int set_list))
        (pss_one (ps_ret (pv 2))))) pss_nil)
      (pss_cons (ps_set (i := 2) scRandom.nd rfl (Or.inl rfl) pe_int)
      (pss_cons (ps_for PassesOwn.never rfl (pi_range1 (by rfl) T.range (pa_cons (pe_op op_add pe_int (pe_op op_fdiv (pe_bits (pv 1)) pe_int)) pa_nil)) (pg_name (i := 3) scRandom.nd rfl (Or.inl rfl))
        (pss_cons (ps_asg (pe_op op_add (pe_ix ix_list (pv 0) pe_int (fun _ _ => rfl)) pe_int) (pg_sub (pv 0) pe_int set_list))
        (pss_one (ps_set (i := 2) scRandom.nd rfl (Or.inl rfl) (pe_op op_add (pe_op op_mul (pv 2) pe_int)
          (pe_use UH hr (by rfl) (pa_cons (pe_ix ix_list (pv 0) pe_int (fun _ _ => rfl)) (pa_cons (pe_ix ix_list (pv 0) pe_int (fun _ _ => rfl)) pa_nil))))))))
      (pss_one (ps_ret (pe_op op_mod (pe_callTy call_int1 (by rfl) T.int PyProof.Rows.boot_int (pa_cons (pv 2) pa_nil)) (pv 1)))))), ?_⟩
    obtain ⟨a, b, c, hg, b0, b1, c0, c1⟩ := G
    refine ⟨_, rfl, g, _, _, _, rfl, rfl, SqL.of hg, at_of (j := 0) rfl rfl, _, _, rfl, rfl, _, rfl, ?_⟩
    by_cases ha : 0 < a
    · refine ite2 (fun _ => ?_) (fun z => absurd (decide_eq_true ha) z)
      refine ⟨_, rfl, g, _, _, _, rfl, rfl, SqL.of hg, at_of (j := 0) rfl rfl, .inl ⟨_, rfl, _, rfl, _, _, rfl, rfl, m0, ?_⟩⟩
      refine ⟨_, rfl, g, _, _, _, rfl, rfl, SqL.of hg, at_of (j := 0) rfl rfl, _, rfl, _, _, rfl, rfl, wide_div (b := 120) m0 (by omega) (by decide) (by decide), _, rfl, g, _, _, 0, rfl, rfl, hg, rfl, ?_⟩
      refine ⟨_, rfl, q _ _ (Int.emod_nonneg _ (by omega)) (Int.emod_lt_of_pos _ m0) ⟨_, b, c, upd_same, b0, b1, c0, by omega⟩ But.put⟩
    · refine ite2 (fun z => absurd (of_decide_eq_true z) ha) (fun _ => ?_)
      obtain ⟨u1, u0⟩ := bits_le m0 m1
      generalize hu : (Builtin.Int.intBits m : Int) / 30 = u at u0 u1
      refine ⟨_, rfl, _, rfl, _, _, rfl, rfl, ⟨by decide, by decide⟩, _, _, rfl, rfl, 1 + u, by rw [hu], by omega, by omega,
        for_range (lo := 0) (n := (1 + u).toNat) (fun i σ H' => ∃ (d : Int) (t : Option V) (c' : Int), σ = [some (.ref g), some (.int m), some (.int d), t] ∧ But g H H' ∧ H' g = some (.lst [.int a, .int b, .int c']) ∧ c ≤ c' ∧ c' ≤ c + i)
        ⟨0, none, c, rfl, But.refl, hg, by omega, by omega⟩ ?_ ?_⟩
      · rintro i σ H' hi ⟨d, t, c', rfl, bt, hg', c2, c3⟩
        refine ⟨_, rfl, g, _, _, _, rfl, rfl, SqL.of hg', at_of (j := 2) rfl rfl, _, _, rfl, rfl, _, rfl, g, _, _, 2, rfl, rfl, hg', rfl, ?_⟩
        refine ⟨_, rfl, _, _, rfl, rfl, .inr ⟨by decide, by decide⟩, _, rfl, g, _, _, _, rfl, rfl, SqL.of upd_same, at_of (j := 1) rfl rfl, _, rfl, g, _, _, _, rfl, rfl, SqL.of upd_same, at_of (j := 2) rfl rfl,
          b, c' + 1, rfl, b0, b1, by omega, by omega, fun r r0 r1 => ⟨_, _, rfl, rfl, ?_⟩⟩
        exact ⟨_, _, c' + 1, rfl, bt.trans But.put, upd_same, by omega, by omega⟩
      · rintro σ H' ⟨d, t, c', rfl, bt, hg', c2, c3⟩
        refine ⟨_, rfl, .inl ⟨_, rfl, _, rfl, _, _, rfl, rfl, m0, ?_⟩⟩
        exact q _ _ (Int.emod_nonneg _ (by omega)) (Int.emod_lt_of_pos _ m0) ⟨a, b, c', hg', b0, b1, by omega, by omega⟩ bt
end
end K07

namespace K07
open PySem PySem.Spec PyProof.Rows L2 GL
theorem cut_ints (ns : List Int) (lo hi : Option Int) : ∃ l : List Int, cutV (ns.map V.int) lo hi = l.map V.int ∧ l.length ≤ ns.length := by
  refine ⟨(ns.drop (HT.sIx (ns.map V.int).length 0 lo)).take (HT.sIx (ns.map V.int).length (ns.map V.int).length hi - HT.sIx (ns.map V.int).length 0 lo), ?_, ?_⟩
  · unfold cutV
    rw [← List.map_drop, ← List.map_take]
  · rw [List.length_take, List.length_drop]
    omega
section
variable {P : Program} {w : World} {K : PySem.W.Frag} {mg : Str → Option Value} {base : Heap}
theorem scCell : FnScope ["_law_script", "_law_index"] ["_law_script", "_law_index"] (defScope sCell) := ⟨rfl, rfl, rfl, by decide +kernel, rfl, by decide +kernel, by decide +kernel⟩
def spCell (K : PySem.W.Frag) : Sp := fun vs H Q _ => ∃ (a : Addr) (ns : List Int) (i : Nat), vs = [.ref a, .int i] ∧ SqL K H a (ns.map V.int) ∧ ∀ (r : Int) (H' : Hp), Same H H' → Q (.int r) H'
theorem ok_cell {f : Addr} {fd : FuncData} (F : Fun K "_law_cell" "_law_cell" sCell f fd) (T : Bi mg) : FnOk P w K mg base CX0 1 f fd ["_law_script", "_law_index"] (spCell K) := by
  refine F.ok scCell (fun vs H Q E h => ?_) (fun cdv A outer s H vs Q E hr h => ?_)
  · obtain ⟨a, ns, i, rfl, _⟩ := h
    rfl
  · obtain ⟨a, ns, i, rfl, hS, q⟩ := h
    refine ⟨_, pss_cons (ps_if (pt_cmpR op_lt (pv 1) (pe_callB call_len_seq (by rfl) T.len PySem.boot_len (pa_cons (pv 0) pa_nil)) (nomark _)) (pss_one (ps_ret (pe_ix ix_list (pv 0) (pv 1) (fun _ _ => rfl)))) pss_nil)
      (pss_one (ps_ret (pe_op op_mod (pe_callB (cr_sum rfl) (by rfl) T.sum (by decide +kernel) (pa_cons (pe_slice sl_list (pv 0) po_none (po_some pe_int)) pa_nil)) pe_int))), ?_⟩
    refine ⟨_, rfl, _, rfl, a, _, rfl, .inl hS, _, _, rfl, rfl, _, rfl, ite2 (fun c => ?_) (fun c => ?_)⟩
    · have hl := of_decide_eq_true c
      rw [List.length_map] at hl
      have hi : i < ns.length := by omega
      exact ⟨_, rfl, _, rfl, a, _, _, _, rfl, rfl, hS, at_of (j := i) rfl (by rw [List.getElem?_map, List.getElem?_eq_getElem hi]; rfl), q _ _ (Same.refl _)⟩
    · refine ⟨_, rfl, 1, rfl, a, _, rfl, hS, fun c nc => ?_⟩
      obtain ⟨l, el, _⟩ := cut_ints ns none (some 1)
      refine ⟨c, l, rfl, by rw [← el]; exact SqL.of upd_same, _, _, rfl, rfl, (by show (0 : Int) < 1000003; decide), q _ _ (same_new nc)⟩
theorem scGen : FnScope ["_law_script", "_law_index", "_law_seed"] ["_law_script", "_law_index"] (defScope sGen) := ⟨rfl, rfl, rfl, by decide +kernel, rfl, by decide +kernel, by decide +kernel⟩
def spGen (K : PySem.W.Frag) : Sp := fun vs H Q _ => ∃ (a : Addr) (ns : List Int) (i : Nat), vs = [.ref a, .int i] ∧ i ≤ 100 ∧ SqL K H a (ns.map V.int) ∧ ∀ (g : Addr) (H' : Hp), Same H H' → H g = none → Gen H' g 1000000 → Q (.ref g) H'
theorem pow60 : CPowW ((10 : Int) ^ (60 : Int).toNat) 10 := ⟨by decide, by decide +kernel⟩
theorem pow600 : (0 : Int) < ((10 : Int) ^ (60 : Int).toNat) ^ (10 : Int).toNat := Int.pow_pos (Int.pow_pos (by decide))
theorem ok_gen {f : Addr} {fd : FuncData} (F : Fun K "_law_generator" "_law_generator" sGen f fd) (T : Bi mg) (U : Use P w K mg base "_law_cell" ["_law_script", "_law_index"] (spCell K) 1) : FnOk P w K mg base CX0 2 f fd ["_law_script", "_law_index"] (spGen K) := by
  refine F.ok scGen (fun vs H Q E h => ?_) (fun cdv A outer s H vs Q E hr h => ?_)
  · obtain ⟨a, ns, i, rfl, _⟩ := h
    rfl
  · obtain ⟨a, ns, i, rfl, hi, hS, q⟩ := h
    refine ⟨_, pss_cons (ps_set (i := 2) scGen.nd rfl (Or.inl rfl) (pe_use U hr (by rfl) (pa_cons (pv 0) (pa_cons (pv 1) pa_nil))))
      (pss_one (ps_ret (pe_lst (pa_cons (pe_op op_mod (pe_callTy call_int1 (by rfl) T.int PyProof.Rows.boot_int (pa_cons (pe_callB (call_max2 rfl) (by rfl) T.max (by decide +kernel) (pa_cons (pe_op op_sub (pv 2) (pe_op op_pow pe_int pe_int)) (pa_cons pe_int pa_nil))) pa_nil)) (pe_op op_powW (pe_op op_pow pe_int pe_int) pe_int))
        (pa_cons (pe_op op_mod (pe_callTy call_int1 (by rfl) T.int PyProof.Rows.boot_int (pa_cons (pv 2) pa_nil)) pe_int) (pa_cons (pe_op op_mul pe_int (pv 1)) pa_nil)))))), ?_⟩
    refine ⟨_, rfl, _, rfl, a, ns, i, rfl, hS, fun r H1 s1 => ?_⟩
    refine ⟨_, rfl, _, _, rfl, rfl, ⟨by decide, by decide, by decide⟩, _, _, rfl, rfl, _, _, rfl, .inl ⟨_, rfl, _, _, rfl, rfl, ⟨by decide, by decide, by decide⟩, _, _, rfl, rfl, pow60, _, _, rfl, rfl, pow600, ?_⟩⟩
    refine ⟨_, rfl, .inl ⟨_, rfl, _, _, rfl, rfl, (by show (0 : Int) < 2147483647; decide), _, rfl, _, _, rfl, rfl, .inl ⟨by decide, by decide⟩, (by show 3 ≤ sizeLine; decide), fun g hg => ?_⟩⟩
    exact q g _ (s1.trans (same_new hg)) (s1.free hg) ⟨_, _, _, upd_same, Int.emod_nonneg _ (by decide), Int.emod_lt_of_pos _ (by decide), by omega, by omega⟩
end
end K07

namespace K07
open PySem PySem.Spec PyProof.Rows L2 GL
abbrev sWhole : Stmt := topS 9
abbrev sBelow : Stmt := topS 10
abbrev sKinds : Stmt := topS 11
abbrev sRow : Stmt := topS 12
abbrev sCompOf : Stmt := topS 13
abbrev sCheck : Stmt := topS 15
/-! ### what a company is -/
def whole (d : PyData) : Bool := isInt d && !isBool d
def below (k : Int) : PyData → Bool
  | .int i => decide (0 ≤ i) && decide (i < k)
  | _ => false
def rowOk (k n : Int) : PyData → Bool
  | .list ds => decide ((ds.length : Int) = n) && ds.all (below k)
  | _ => false
def rowsOk (k : Int) : Nat → List PyData → Bool
  | _, [] => true
  | n, d :: ds => rowOk k n d && rowsOk k (n + 1) ds
def compOk (k : Int) : PyData → Bool
  | .list ds => (decide (1 ≤ ds.length) && decide (ds.length ≤ 40)) && rowsOk k 0 ds
  | _ => false
section
variable {P : Program} {w : World} {K : PySem.W.Frag} {mg : Str → Option Value} {base : Heap}
theorem scWhole : FnScope ["value"] ["value"] (defScope sWhole) := ⟨rfl, rfl, rfl, by decide +kernel, rfl, by decide +kernel, by decide +kernel⟩
def spWhole (K : PySem.W.Frag) : Sp := fun vs H Q _ => ∃ x d, vs = [x] ∧ Dt K H x d ∧ Q (.bl (whole d)) H
theorem ok_whole {f : Addr} {fd : FuncData} (F : Fun K "is_whole" "is_whole" sWhole f fd) (T : Bi mg) : FnOk P w K mg base CX0 1 f fd ["value"] (spWhole K) := by
  refine F.ok scWhole (fun vs H Q E h => ?_) (fun cdv A outer s H vs Q E hr h => ?_)
  · obtain ⟨x, d, rfl, _⟩ := h
    rfl
  · obtain ⟨x, d, rfl, hd, q⟩ := h
    refine ⟨_, pss_one (ps_ret (pe_and (pe_callB call_isi (by rfl) T.isinstance (by decide +kernel) (pa_cons (pv 0) (pa_cons (pe_bltn (v := .ty "int") (by rfl) T.int PyProof.Rows.boot_int rfl) pa_nil)))
      (pe_one (pe_not (pe_callB call_isi (by rfl) T.isinstance (by decide +kernel) (pa_cons (pv 0) (pa_cons (pe_bltn (v := .ty "bool") (by rfl) T.bool (by decide +kernel) rfl) pa_nil))))))), ?_⟩
    refine ⟨_, rfl, _, _, _, _, _, rfl, .ty "int", hd.ty, kit_int d, _, rfl, ?_⟩
    cases e : isInt d with
    | false =>
      refine iteF ?_
      have z : whole d = false := by unfold whole; rw [e]; rfl
      rw [← z]
      exact q
    | true =>
      refine iteT ⟨_, rfl, _, _, _, _, _, rfl, .ty "bool", hd.ty, kit_bool d, _, rfl, ?_⟩
      have z : whole d = !isBool d := by unfold whole; rw [e]; rfl
      rw [← z]
      exact q
theorem scBelow : FnScope ["value", "bound"] ["value", "bound"] (defScope sBelow) := ⟨rfl, rfl, rfl, by decide +kernel, rfl, by decide +kernel, by decide +kernel⟩
def spBelow (K : PySem.W.Frag) : Sp := fun vs H Q _ => ∃ x d k, vs = [x, .int k] ∧ Dt K H x d ∧ Q (.bl (below k d)) H
theorem whole_cases (d : PyData) : (∃ i, d = .int i ∧ whole d = true) ∨ (whole d = false ∧ ∀ k, below k d = false) := by
  cases d with
  | int i => exact .inl ⟨i, rfl, rfl⟩
  | _ => exact .inr ⟨rfl, fun _ => rfl⟩
theorem ok_below {f : Addr} {fd : FuncData} (F : Fun K "is_below" "is_below" sBelow f fd) (U : Use P w K mg base "is_whole" ["value"] (spWhole K) 1) : FnOk P w K mg base CX0 2 f fd ["value", "bound"] (spBelow K) := by
  refine F.ok scBelow (fun vs H Q E h => ?_) (fun cdv A outer s H vs Q E hr h => ?_)
  · obtain ⟨x, d, k, rfl, _⟩ := h
    rfl
  · obtain ⟨x, d, k, rfl, hd, q⟩ := h
    refine ⟨_, pss_one (ps_ret (pe_and (pe_use U hr (by rfl) (pa_cons (pv 0) pa_nil)) (pe_one (pe_chain op_le op_lt pe_int (pv 0) (pv 1))))), ?_⟩
    refine ⟨_, rfl, _, d, rfl, hd, _, rfl, ?_⟩
    rcases whole_cases d with ⟨i, rfl, e⟩ | ⟨e, z⟩
    · rw [e]
      cases hd
      refine iteT ⟨_, rfl, _, _, rfl, rfl, _, rfl, ?_⟩
      cases c : decide ((0 : Int) ≤ i) with
      | true =>
        refine iteT ⟨_, rfl, _, _, rfl, rfl, ?_⟩
        have z : below k (.int i) = decide (i < k) := by
          show (decide (0 ≤ i) && decide (i < k)) = decide (i < k)
          rw [c, Bool.true_and]
        rw [z] at q
        exact q
      | false =>
        refine iteF ?_
        have z : below k (.int i) = false := by
          show (decide (0 ≤ i) && decide (i < k)) = false
          rw [c, Bool.false_and]
        rw [z] at q
        exact q
    · rw [e]
      refine iteF ?_
      rw [← z k]
      exact q
theorem scKinds : FnScope ["value"] ["value"] (defScope sKinds) := ⟨rfl, rfl, rfl, by decide +kernel, rfl, by decide +kernel, by decide +kernel⟩
def spKinds (K : PySem.W.Frag) : Sp := fun vs H Q _ => ∃ k : Int, vs = [.int k] ∧ 2 ≤ k ∧ k ≤ 9 ∧ Q (.bl true) H
/-- the bounds, as the text has written them -/
structure Cs (mg : Str → Option Value) : Prop where
  least : ∃ t, mg "LEAST_KINDS" = some (.int 2 t)
  most : ∃ t, mg "MOST_KINDS" = some (.int 9 t)
  people : ∃ t, mg "MOST_PEOPLE" = some (.int 40 t)
theorem ok_kinds {f : Addr} {fd : FuncData} (F : Fun K "are_kinds" "are_kinds" sKinds f fd) (C : Cs mg) (U : Use P w K mg base "is_whole" ["value"] (spWhole K) 1) : FnOk P w K mg base CX0 2 f fd ["value"] (spKinds K) := by
  refine F.ok scKinds (fun vs H Q E h => ?_) (fun cdv A outer s H vs Q E hr h => ?_)
  · obtain ⟨k, rfl, _⟩ := h
    rfl
  · obtain ⟨k, rfl, h2, h9, q⟩ := h
    obtain ⟨t1, c1⟩ := C.least
    obtain ⟨t2, c2⟩ := C.most
    refine ⟨_, pss_one (ps_ret (pe_and (pe_use U hr (by rfl) (pa_cons (pv 0) pa_nil)) (pe_one (pe_chain op_le op_le (pe_glob (v := .int 2) rfl c1 ⟨_, rfl⟩) (pv 0) (pe_glob (v := .int 9) rfl c2 ⟨_, rfl⟩))))), ?_⟩
    refine ⟨_, rfl, _, .int k, rfl, .int k, _, rfl, iteT ⟨_, rfl, _, _, rfl, rfl, _, rfl, ?_⟩⟩
    rw [decide_eq_true h2]
    rw [← decide_eq_true h9] at q
    exact iteT ⟨_, _, rfl, rfl, q⟩
theorem scRow : FnScope ["kinds", "many", "value", "kind"] ["kinds", "many", "value"] (defScope sRow) := ⟨rfl, rfl, rfl, by decide +kernel, rfl, by decide +kernel, by decide +kernel⟩
def spRow (K : PySem.W.Frag) : Sp := fun vs H Q _ => ∃ x d k n, vs = [.int k, .int n, x] ∧ n ≤ 1000 ∧ Dt K H x d ∧ ∀ H', Same H H' → Q (.bl (rowOk k n d)) H'
theorem take_more {α β : Type} (f : α → β) {l : List α} {i : Nat} {x : α} (h : l[i]? = some x) : (l.take (i + 1)).map f = (l.take i).map f ++ [f x] := by
  rw [List.take_add_one, h, List.map_append]
  rfl
theorem ok_row {f : Addr} {fd : FuncData} (F : Fun K "is_row" "is_row" sRow f fd) (T : Bi mg) (U : Use P w K mg base "is_below" ["value", "bound"] (spBelow K) 2) : FnOk P w K mg base CX0 3 f fd ["kinds", "many", "value"] (spRow K) := by
  refine F.ok scRow (fun vs H Q E h => ?_) (fun cdv A outer s H vs Q E hr h => ?_)
  · obtain ⟨x, d, k, n, rfl, _⟩ := h
    rfl
  · obtain ⟨x, d, k, n, rfl, hn, hd, q⟩ := h
    refine ⟨_, pss_one (ps_ret (pe_and (pe_callB call_isi (by rfl) T.isinstance (by decide +kernel) (pa_cons (pv 2) (pa_cons (pe_bltn (v := .ty "list") (by rfl) T.list PyProof.Rows.boot_list rfl) pa_nil)))
      (pe_and (pe_cmpR op_eq (pe_callB call_len_seq (by rfl) T.len PySem.boot_len (pa_cons (pv 2) pa_nil)) (pv 1) (nomark _))
      (pe_one (pe_callB (cr_all rfl) (by rfl) T.all (by decide +kernel) (pa_cons (pe_lc (own := [("kind", 3)]) (g := gName 3) (tt := tYes) rfl scRow.nd (pi_list (pv 2)) (blkOk_by (N := ["kinds", "many", "value", "kind"]) (sc := defScope sRow) (by decide +kernel))
        (fun _ _ _ _ _ => pg_name (i := 3) scRow.nd rfl (Or.inl rfl)) (fun _ _ _ _ _ => pts_nil) (fun _ _ _ _ _ => pe_use U hr (by rfl) (pa_cons (pv 3) (pa_cons (pv 0) pa_nil)))) pa_nil)))))), ?_⟩
    refine ⟨_, rfl, _, _, _, _, _, rfl, .ty "list", hd.ty, kit_list d, _, rfl, ?_⟩
    by_cases e : ∃ ds, d = .list ds
    · obtain ⟨ds, rfl⟩ := e
      cases hd with
      | @lst a xs _ ha hs =>
        have hl := hs.length
        refine iteT ⟨_, rfl, a, xs, rfl, .inl (SqL.of ha), _, rfl, rfl, _, rfl, ?_⟩
        rw [hl]
        by_cases c : (ds.length : Int) = n
        · rw [decide_eq_true (congrArg V.int c)]
          refine iteT ⟨_, rfl, a, rfl, ⟨_, SqL.of ha⟩, fun D hD => ?_⟩
          refine lc_list (K := K) (a := a) (xs := xs) (fun i H' => Same H H' ∧ H' D = some (.lst (((ds.take i).map (below k)).map V.bl))) ⟨same_new hD, upd_same⟩ (fun i H' _ z => (z.1).seq (SqL.of ha)) ?_ ?_
          · rintro i y H' hi ⟨s1, hD'⟩
            obtain ⟨dy, e1, d1⟩ := hs.get hi
            refine ⟨rfl, yes_of ?_⟩
            refine ⟨_, rfl, _, rfl, y, dy, k, rfl, Dt.same s1 dy _ d1, _, hD', ?_, ?_, ?_⟩
            · rw [List.length_map, List.length_map, List.length_take]
              exact small1000 (by omega)
            · exact fun b o z => by rw [upd_ne (ne_of_none z hD)]; exact s1 b o z
            · rw [upd_same, take_more (below k) e1, List.map_append]
              rfl
          · rintro H' ⟨s1, hD'⟩
            rw [hl, List.take_length] at hD'
            refine ⟨D, ds.map (below k), rfl, SqL.of hD', ?_⟩
            have z : rowOk k n (.list ds) = (ds.map (below k)).all id := by
              show (decide ((ds.length : Int) = n) && ds.all (below k)) = _
              rw [decide_eq_true c, Bool.true_and, List.all_map]
              rfl
            rw [← z]
            exact q _ s1
        · rw [decide_eq_false (fun z => c (V.int.inj z))]
          refine iteF ?_
          have z : rowOk k n (.list ds) = false := by
            show (decide ((ds.length : Int) = n) && ds.all (below k)) = false
            rw [decide_eq_false c]
            rfl
          rw [← z]
          exact q _ (Same.refl _)
    · have z : isList d = false ∧ rowOk k n d = false := by
        cases d with
        | list ds => exact (e ⟨ds, rfl⟩).elim
        | _ => exact ⟨rfl, rfl⟩
      rw [z.1]
      refine iteF ?_
      rw [← z.2]
      exact q _ (Same.refl _)
end
end K07

namespace K07
open PySem PySem.Spec PyProof.Rows L2 GL
theorem rowsOk_all (k : Int) : ∀ (ds : List PyData) (n : Nat), rowsOk k n ds = (((List.range ds.length).map fun j => rowOk k ((n + j : Nat) : Int) (ds.getD j .none))).all id
  | [], _ => rfl
  | d :: ds, n => by
    have ih := rowsOk_all k ds (n + 1)
    show (rowOk k n d && rowsOk k (n + 1) ds) = _
    rw [ih, List.length_cons, List.range_succ_eq_map, List.map_cons, List.map_map, List.all_cons]
    have e : (List.range ds.length).map (fun j => rowOk k ((n + 1 + j : Nat) : Int) (ds.getD j .none)) = (List.range ds.length).map ((fun j => rowOk k ((n + j : Nat) : Int) ((d :: ds).getD j .none)) ∘ Nat.succ) := by
      refine List.map_congr_left fun j _ => ?_
      show rowOk k ((n + 1 + j : Nat) : Int) (ds.getD j .none) = rowOk k ((n + (j + 1) : Nat) : Int) (ds.getD j .none)
      rw [show n + 1 + j = n + (j + 1) by omega]
    rw [e]
    rfl
theorem all_range_more (f : Nat → Bool) (i : Nat) : (((List.range (i + 1)).map f).map V.bl) = ((List.range i).map f).map V.bl ++ [V.bl (f i)] := by
  rw [List.range_succ, List.map_append, List.map_append]
  rfl
section
variable {P : Program} {w : World} {K : PySem.W.Frag} {mg : Str → Option Value} {base : Heap}
theorem scCompOf : FnScope ["kinds", "value", "person", "row"] ["kinds", "value"] (defScope sCompOf) := ⟨rfl, rfl, rfl, by decide +kernel, rfl, by decide +kernel, by decide +kernel⟩
def spCompOf (K : PySem.W.Frag) : Sp := fun vs H Q _ => ∃ x d k, vs = [.int k, x] ∧ Dt K H x d ∧ ∀ H', Same H H' → Q (.bl (compOk k d)) H'
theorem ok_compOf {f : Addr} {fd : FuncData} (F : Fun K "is_company_of" "is_company_of" sCompOf f fd) (T : Bi mg) (C : Cs mg) (U : Use P w K mg base "is_row" ["kinds", "many", "value"] (spRow K) 3) : FnOk P w K mg base CX0 4 f fd ["kinds", "value"] (spCompOf K) := by
  refine F.ok scCompOf (fun vs H Q E h => ?_) (fun cdv A outer s H vs Q E hr h => ?_)
  · obtain ⟨x, d, k, rfl, _⟩ := h
    rfl
  · obtain ⟨x, d, k, rfl, hd, q⟩ := h
    obtain ⟨t3, c3⟩ := C.people
    refine ⟨_, pss_cons (ps_if (PW.pt (pw_or (pt_not (pt_val (pe_callB call_isi (by rfl) T.isinstance (by decide +kernel) (pa_cons (pv 1) (pa_cons (pe_bltn (v := .ty "list") (by rfl) T.list PyProof.Rows.boot_list rfl) pa_nil)))))
        (pw_or1 (pt_not (pt_chain op_le op_le pe_int (pe_callB call_len_seq (by rfl) T.len PySem.boot_len (pa_cons (pv 1) pa_nil)) (pe_glob (v := .int 40) rfl c3 ⟨_, rfl⟩)))))) (pss_one (ps_ret pe_bl)) pss_nil)
      (pss_one (ps_ret (pe_callB (cr_all rfl) (by rfl) T.all (by decide +kernel) (pa_cons (pe_lc (own := [("person", 2), ("row", 3)]) (g := gTup K 2 (gCons (gName 2) (gCons (gName 3) gNil))) (tt := tYes) rfl scCompOf.nd (pi_enum (by rfl) T.enumerate (pa_cons (pv 1) pa_nil))
        (blkOk_by (N := ["kinds", "value", "person", "row"]) (sc := defScope sCompOf) (by decide +kernel)) (fun _ _ _ _ _ => pg_tup rfl (pgs_cons (pg_name (i := 2) scCompOf.nd rfl (Or.inl rfl)) (pgs_cons (pg_name (i := 3) scCompOf.nd rfl (Or.inl rfl)) pgs_nil)))
        (fun _ _ _ _ _ => pts_nil) (fun _ _ _ _ _ => pe_use U hr (by rfl) (pa_cons (pv 0) (pa_cons (pv 2) (pa_cons (pv 3) pa_nil))))) pa_nil)))), ?_⟩
    refine ⟨_, rfl, _, _, _, _, _, rfl, .ty "list", hd.ty, kit_list d, _, rfl, ?_⟩
    by_cases e : ∃ ds, d = .list ds
    · obtain ⟨ds, rfl⟩ := e
      cases hd with
      | @lst a xs _ ha hs =>
        have hl := hs.length
        refine iteF ⟨_, rfl, a, xs, rfl, .inl (SqL.of ha), _, _, rfl, rfl, _, rfl, ?_⟩
        rw [hl]
        by_cases c1 : (1 : Int) ≤ (ds.length : Int)
        · rw [decide_eq_true c1]
          refine iteT ⟨_, _, rfl, rfl, _, rfl, ?_⟩
          by_cases c2 : (ds.length : Int) ≤ 40
          · rw [decide_eq_true c2]
            refine iteF ⟨_, rfl, a, xs, rfl, SqL.of ha, fun D hD => ?_⟩
            refine lc_it (walk_enum (K := K) (a := a) (xs := xs)) (fun i H' => Same H H' ∧ H' D = some (.lst (((List.range i).map fun j => rowOk k ((0 + j : Nat) : Int) (ds.getD j .none)).map V.bl))) ⟨same_new hD, upd_same⟩ (fun i H' _ z => (z.1).seq (SqL.of ha)) ?_ ?_
            · rintro i y H' H'' hi ⟨s1, hD'⟩ ⟨T, x1, x2, rfl, nT, rfl, e1, e2⟩
              have e1' : x1 = .int (i : Nat) := (Option.some.inj e1).symm
              subst e1'
              obtain ⟨dy, f1, f2⟩ := hs.get e2
              have s2 := s1.trans (same_new (o := .tup [.int (i : Nat), x2]) nT)
              have ne : D ≠ T := ne_of_none hD' nT
              refine ⟨T, [.int (i : Nat), x2], rfl, SqT.of upd_same, rfl, _, _, rfl, _, _, rfl, rfl, rfl, yes_of ?_⟩
              refine ⟨_, rfl, _, rfl, _, rfl, x2, dy, k, i, rfl, by omega, Dt.same s2 dy _ f2, fun H3 s3 => ⟨_, s3 D _ (by rw [upd_ne ne]; exact hD'), ?_, ?_, ?_⟩⟩
              · rw [List.length_map, List.length_map, List.length_range]
                exact small1000 (by omega)
              · exact fun b o z => by rw [upd_ne (ne_of_none z hD)]; exact s3 b o (s2 b o z)
              · rw [upd_same, all_range_more]
                have ez : (0 + i : Nat) = i := Nat.zero_add i
                have eg : ds.getD i .none = dy := by rw [List.getD_eq_getElem?_getD, f1]; rfl
                rw [ez, eg]
            · rintro H' ⟨s1, hD'⟩
              refine ⟨D, _, rfl, SqL.of hD', ?_⟩
              rw [hl, ← rowsOk_all]
              have z : compOk k (.list ds) = rowsOk k 0 ds := by
                show ((decide (1 ≤ ds.length) && decide (ds.length ≤ 40)) && rowsOk k 0 ds) = _
                rw [decide_eq_true (by omega : 1 ≤ ds.length), decide_eq_true (by omega : ds.length ≤ 40)]
                rfl
              rw [← z]
              exact q _ s1
          · rw [decide_eq_false c2]
            refine iteT ?_
            have z : compOk k (.list ds) = false := by
              show ((decide (1 ≤ ds.length) && decide (ds.length ≤ 40)) && rowsOk k 0 ds) = _
              rw [decide_eq_false (by omega : ¬ ds.length ≤ 40), Bool.and_false, Bool.false_and]
            have q' := q _ (Same.refl _)
            rw [z] at q'
            exact q'
        · rw [decide_eq_false c1]
          refine iteF ⟨_, rfl, iteT ?_⟩
          have z : compOk k (.list ds) = false := by
            show ((decide (1 ≤ ds.length) && decide (ds.length ≤ 40)) && rowsOk k 0 ds) = _
            rw [decide_eq_false (by omega : ¬ 1 ≤ ds.length), Bool.false_and, Bool.false_and]
          have q' := q _ (Same.refl _)
          rw [z] at q'
          exact q'
    · have z : isList d = false ∧ compOk k d = false := by
        cases d with
        | list ds => exact (e ⟨ds, rfl⟩).elim
        | _ => exact ⟨rfl, rfl⟩
      rw [z.1]
      refine iteT ?_
      have q' := q _ (Same.refl _)
      rw [z.2] at q'
      exact q'
end
end K07

namespace K07
open PySem PySem.Spec PyProof.Rows L2 GL
/-! ### tables of numbers -/
/-- at c a list of the lists at rs, which hold the numbers kss -/
structure Tab (H : Hp) (c : Addr) (rs : List Addr) (kss : List (List Int)) : Prop where
  top : H c = some (.lst (rs.map V.ref))
  len : rs.length = kss.length
  row : ∀ (i : Nat) (r : Addr) (ks : List Int), rs[i]? = some r → kss[i]? = some ks → H r = some (.lst (ks.map V.int))
  nd : rs.Nodup
/-- the numbers of a company -/
def Fine (k : Int) (kss : List (List Int)) : Prop := ∀ (i : Nat) (ks : List Int), kss[i]? = some ks → ks.length = i ∧ ∀ z ∈ ks, 0 ≤ z ∧ z < k
theorem Tab.same {H H' : Hp} {c : Addr} {rs : List Addr} {kss : List (List Int)} (t : Tab H c rs kss) (s : Same H H') : Tab H' c rs kss := ⟨s _ _ t.top, t.len, fun i r ks a b => s _ _ (t.row i r ks a b), t.nd⟩
theorem Tab.at {H : Hp} {c : Addr} {rs : List Addr} {kss : List (List Int)} (t : Tab H c rs kss) {i : Nat} (hi : i < kss.length) : ∃ r ks, rs[i]? = some r ∧ kss[i]? = some ks ∧ H r = some (.lst (ks.map V.int)) := by
  have h2 : i < rs.length := by rw [t.len]; exact hi
  exact ⟨rs[i], kss[i], List.getElem?_eq_getElem h2, List.getElem?_eq_getElem hi, t.row i _ _ (List.getElem?_eq_getElem h2) (List.getElem?_eq_getElem hi)⟩
def exprOf : Stmt → Expr
  | .Return (some e) _ => e
  | .Assign _ e _ => e
  | _ => .Name "" ⟨0, 0, 0, 0⟩
def stmtIn (l : List Stmt) (i : Nat) : Stmt := l.getD i (.Pass ⟨0, 0, 0, 0⟩)
def compScope : Expr → Scope
  | .ListComp _ _ sc _ => sc
  | _ => { kind := .function, names := [], isGenerator := false, isCoroutine := false }
theorem cut_to {xs : List V} {i : Nat} (h : i ≤ xs.length) : cutV xs none (some (i : Int)) = xs.take i := by
  unfold cutV
  rw [HT.sIx_none, HT.sIx_nat, Nat.min_eq_left h]
  rfl
theorem Tab.push {H H4 : Hp} {c p : Addr} {rs : List Addr} {kss : List (List Int)} {ks : List Int} (t : Tab H c rs kss) (nc : c ∉ rs) (s : ∀ r ∈ rs, ∀ o, H r = some o → H4 r = some o) (hp : H p = none) (h4 : H4 p = some (.lst (ks.map V.int))) :
    Tab (upd H4 c (.lst (rs.map V.ref ++ [V.ref p]))) c (rs ++ [p]) (kss ++ [ks]) ∧ c ∉ rs ++ [p] := by
  have pc : c ≠ p := ne_of_none t.top hp
  have held : ∀ r ∈ rs, ∃ o, H r = some o := fun r hr => by
    obtain ⟨i, hi⟩ := List.getElem?_of_mem hr
    have h2 : i < kss.length := by rw [← t.len]; exact (List.getElem?_eq_some_iff.mp hi).1
    exact ⟨_, t.row i r _ hi (List.getElem?_eq_getElem h2)⟩
  have np : p ∉ rs := fun hr => by
    obtain ⟨o, e⟩ := held p hr
    rw [hp] at e
    cases e
  refine ⟨⟨?_, ?_, ?_, ?_⟩, ?_⟩
  · rw [upd_same, List.map_append]
    rfl
  · rw [List.length_append, List.length_append, t.len]
    rfl
  · intro i r ks' h1 h2
    by_cases hi : i < rs.length
    · rw [List.getElem?_append_left hi] at h1
      rw [List.getElem?_append_left (by rw [← t.len]; exact hi)] at h2
      have e := t.row i r ks' h1 h2
      have rc : r ≠ c := fun z => nc (by rw [← z]; exact List.mem_of_getElem? h1)
      rw [upd_ne rc]
      exact s r (List.mem_of_getElem? h1) _ e
    · rw [List.getElem?_append_right (by omega)] at h1
      rw [List.getElem?_append_right (by rw [← t.len]; omega)] at h2
      have i0 : i - rs.length = 0 := by
        have := (List.getElem?_eq_some_iff.mp h1).1
        simp at this
        omega
      rw [i0] at h1
      rw [← t.len, i0] at h2
      cases h1
      cases h2
      rw [upd_ne pc.symm]
      exact h4
  · rw [List.nodup_append]
    refine ⟨t.nd, by simp, fun a ha b hb => ?_⟩
    rw [List.mem_singleton] at hb
    subst hb
    exact fun z => np (by rw [← z]; exact ha)
  · rw [List.mem_append, List.mem_singleton]
    rintro (z | z)
    · exact nc z
    · exact pc z
theorem Fine.nil {k : Int} : Fine k [] := fun i ks h => by simp at h
theorem Fine.push {k : Int} {kss : List (List Int)} {ks : List Int} (f : Fine k kss) (l : ks.length = kss.length) (b : ∀ z ∈ ks, 0 ≤ z ∧ z < k) : Fine k (kss ++ [ks]) := by
  intro i ks' h
  by_cases hi : i < kss.length
  · rw [List.getElem?_append_left hi] at h
    exact f i ks' h
  · rw [List.getElem?_append_right (by omega)] at h
    have i0 : i - kss.length = 0 := by
      have := (List.getElem?_eq_some_iff.mp h).1
      simp at this
      omega
    rw [i0] at h
    cases h
    exact ⟨by omega, b⟩
theorem Tab.but {H H' : Hp} {c g : Addr} {rs : List Addr} {kss : List (List Int)} (t : Tab H c rs kss) (b : But g H H') (h1 : c ≠ g) (h2 : g ∉ rs) : Tab H' c rs kss :=
  ⟨b _ _ t.top h1, t.len, fun i r ks x y => b _ _ (t.row i r ks x y) fun z => h2 (by rw [← z]; exact List.mem_of_getElem? x), t.nd⟩
def natV (os : List Nat) : List V := os.map fun (j : Nat) => V.int (j : Int)
theorem seq_in {r : Int} {n : Nat} (h0 : 0 ≤ r) (h1 : r < n) : seqIndex? r n = some r.toNat := by
  unfold seqIndex?
  rw [if_neg (by omega : ¬ r < 0), if_pos (by simp [h0, h1])]
theorem rg_nat (n : Nat) : rgV 0 (n : Int) = natV (List.range n) := by
  unfold rgV natV
  rw [show ((n : Int) - 0).toNat = n by omega]
  exact List.map_congr_left fun j _ => by rw [Int.zero_add]
theorem erase_map : ∀ {os : List Nat} (k : Nat), (natV os).eraseIdx k = natV (os.eraseIdx k)
  | [], k => by cases k <;> rfl
  | a :: os, 0 => rfl
  | a :: os, k + 1 => congrArg (V.int (a : Int) :: ·) (erase_map (os := os) k)
theorem perm_erase : ∀ {l : List Nat} {k : Nat} {y : Nat}, l[k]? = some y → (y :: l.eraseIdx k).Perm l
  | [], k, y, h => by simp at h
  | a :: l, 0, y, h => by
    cases h
    exact .refl _
  | a :: l, k + 1, y, h => (List.Perm.swap a y (l.eraseIdx k)).trans (List.Perm.cons a (perm_erase (l := l) (k := k) h))
def ifBody : Stmt → List Stmt
  | .If _ b _ _ => b
  | _ => []
def forBody : Stmt → List Stmt
  | .For _ _ b _ _ => b
  | _ => []
theorem rep_one (n : Nat) (k : Int) : (List.replicate n [V.int k]).flatten = (List.replicate n k).map V.int := by
  induction n with
  | zero => rfl
  | succ n ih =>
    rw [List.replicate_succ, List.replicate_succ, List.flatten_cons, ih]
    rfl
theorem notin_new {H : Hp} {g : Addr} {n : Nat} {rs : List Addr} (G : Gen H g n) (nR : ∀ r ∈ rs, H r = none) : g ∉ rs := fun z => by
  obtain ⟨a, b, c, h1, _⟩ := G
  have := nR g z
  rw [h1] at this
  cases this
theorem but_free {H H' : Hp} {g p : Addr} {n' : Nat} (b : But g H H') (G' : Gen H' g n') (hp : H' p = none) : H p = none := by
  have pg : p ≠ g := (G'.ne hp).symm
  cases q : H p with
  | none => rfl
  | some o =>
    rw [b p o q pg] at hp
    cases hp
theorem Gen.same {H H' : Hp} {g : Addr} {n : Nat} (h : Gen H g n) (s : Same H H') : Gen H' g n := by
  obtain ⟨a, b, c, h1, r⟩ := h
  exact ⟨a, b, c, s _ _ h1, r⟩
theorem cut_one (xs : List V) : cutV xs (some 1) none = xs.drop 1 := by
  unfold cutV
  rw [HT.sIx_none, show HT.sIx xs.length 0 (some 1) = min 1 xs.length from HT.sIx_nat xs.length 0 1]
  cases xs with
  | nil => rfl
  | cons x xs =>
    have e : min 1 (x :: xs).length = 1 := by
      rw [List.length_cons]
      omega
    rw [e]
    exact List.take_of_length_le (by rw [List.length_drop]; omega)
theorem gen (H : Hp) {p : Addr} (h : H p = none) (o : HO) : ∃ H', upd H p o = H' ∧ Same H H' ∧ H' p = some o := ⟨_, rfl, same_new h, upd_same⟩
theorem one_le : 1 ≤ sizeLine := by decide
abbrev sCheckC : Stmt := topS 16
abbrev sTie : Stmt := topS 30
/-- the tie of two people -/
def tieN (kss : List (List Int)) (i j : Nat) : Int := (kss.getD (max i j) []).getD (min i j) 0
theorem tieN_comm (kss : List (List Int)) (i j : Nat) : tieN kss i j = tieN kss j i := by
  unfold tieN
  rw [Nat.max_comm, Nat.min_comm]
theorem tieN_in {k : Int} {kss : List (List Int)} (f : Fine k kss) {i j : Nat} (hi : i < kss.length) (hj : j < kss.length) (ne : i ≠ j) : 0 ≤ tieN kss i j ∧ tieN kss i j < k := by
  have hm : max i j < kss.length := by omega
  have e : kss.getD (max i j) [] = kss[max i j] := by rw [List.getD_eq_getElem?_getD, List.getElem?_eq_getElem hm]; rfl
  obtain ⟨a, b⟩ := f _ _ (List.getElem?_eq_getElem hm)
  have hl : min i j < kss[max i j].length := by omega
  unfold tieN
  rw [e, List.getD_eq_getElem?_getD, List.getElem?_eq_getElem hl]
  exact b _ (List.getElem_mem hl)
section
variable {P : Program} {w : World} {K : PySem.W.Frag} {mg : Str → Option Value} {base : Heap}
theorem scCheck : FnScope ["kinds"] ["kinds"] (defScope sCheck) := ⟨rfl, rfl, rfl, by decide +kernel, rfl, by decide +kernel, by decide +kernel⟩
def spCheck : Sp := fun vs H Q _ => ∃ k : Int, vs = [.int k] ∧ 2 ≤ k ∧ k ≤ 9 ∧ Q .non H
theorem ok_check {f : Addr} {fd : FuncData} (F : Fun K "check_kinds" "check_kinds" sCheck f fd) (U : Use P w K mg base "are_kinds" ["value"] (spKinds K) 2) : FnOk P w K mg base CX0 3 f fd ["kinds"] spCheck := by
  refine F.ok scCheck (fun vs H Q E h => ?_) (fun cdv A outer s H vs Q E hr h => ?_)
  · obtain ⟨k, rfl, _⟩ := h
    rfl
  · obtain ⟨k, rfl, h2, h9, q⟩ := h
    refine ⟨_, pss_one (ps_if (pt_not (pt_val (pe_use U hr (by rfl) (pa_cons (pv 0) pa_nil)))) (pss_one ps_never) pss_nil), ?_⟩
    exact ⟨_, rfl, k, rfl, h2, h9, _, rfl, iteF q⟩

theorem scCheckC : FnScope ["kinds", "company"] ["kinds", "company"] (defScope sCheckC) := ⟨rfl, rfl, rfl, by decide +kernel, rfl, by decide +kernel, by decide +kernel⟩
def spCheckC (K : PySem.W.Frag) : Sp := fun vs H Q _ => ∃ (k : Int) (x : V) (d : PyData), vs = [.int k, x] ∧ 2 ≤ k ∧ k ≤ 9 ∧ Dt K H x d ∧ compOk k d = true ∧ ∀ H', Same H H' → Q .non H'
theorem ok_checkC {f : Addr} {fd : FuncData} (F : Fun K "check_company" "check_company" sCheckC f fd) (U : Use P w K mg base "check_kinds" ["kinds"] spCheck 3) (V : Use P w K mg base "is_company_of" ["kinds", "value"] (spCompOf K) 4) : FnOk P w K mg base CX0 5 f fd ["kinds", "company"] (spCheckC K) := by
  refine F.ok scCheckC (fun vs H Q E h => ?_) (fun cdv A outer s H vs Q E hr h => ?_)
  · obtain ⟨k, x, d, rfl, _⟩ := h
    rfl
  · obtain ⟨k, x, d, rfl, h2, h9, hd, ok, q⟩ := h
    refine ⟨_, pss_cons (ps_expr (pe_use U (hr.mono (by decide)) (by rfl) (pa_cons (pv 0) pa_nil))) (pss_one (ps_if (pt_not (pt_val (pe_use V hr (by rfl) (pa_cons (pv 0) (pa_cons (pv 1) pa_nil))))) (pss_one ps_never) pss_nil)), ?_⟩
    refine ⟨_, rfl, k, rfl, h2, h9, _, rfl, _, rfl, x, d, k, rfl, hd, fun H' s' => ⟨_, rfl, ?_⟩⟩
    rw [ok]
    exact iteF (q _ s')
theorem scTie : FnScope ["_law_company_here", "_law_one", "_law_other"] ["_law_company_here", "_law_one", "_law_other"] (defScope sTie) := ⟨rfl, rfl, rfl, by decide +kernel, rfl, by decide +kernel, by decide +kernel⟩
def spTie : Sp := fun vs H Q _ => ∃ (c : Addr) (rs : List Addr) (kss : List (List Int)) (k : Int) (one other : Nat), vs = [.ref c, .int one, .int other] ∧ Tab H c rs kss ∧ Fine k kss ∧ one < kss.length ∧ other < kss.length ∧ one ≠ other ∧ Q (.int (tieN kss one other)) H
theorem ok_tie {f : Addr} {fd : FuncData} (F : Fun K "_law_tie" "_law_tie" sTie f fd) (T : Bi mg) : FnOk P w K mg base CX0 1 f fd ["_law_company_here", "_law_one", "_law_other"] spTie := by
  refine F.ok scTie (fun vs H Q E h => ?_) (fun cdv A outer s H vs Q E hr h => ?_)
  · obtain ⟨c, rs, kss, k, i, j, rfl, _⟩ := h
    rfl
  · obtain ⟨c, rs, kss, k, i, j, rfl, t, fine, hi, hj, ne, q⟩ := h
    refine ⟨_, pss_one (ps_ret (pe_ix ix_list (pe_ix ix_list (pv 0) (pe_callB (call_max2 rfl) (by rfl) T.max (by decide +kernel) (pa_cons (pv 1) (pa_cons (pv 2) pa_nil))) (fun _ _ => rfl)) (pe_callB (call_min2 rfl) (by rfl) T.min (by decide +kernel) (pa_cons (pv 1) (pa_cons (pv 2) pa_nil))) (fun _ _ => rfl))), ?_⟩
    have e1 : (if (j : Int) > (i : Int) then (j : Int) else (i : Int)) = ((max i j : Nat) : Int) := by
      by_cases c : i < j
      · rw [if_pos (by omega), Nat.max_eq_right (by omega)]
      · rw [if_neg (by omega), Nat.max_eq_left (by omega)]
    have e2 : (if (j : Int) < (i : Int) then (j : Int) else (i : Int)) = ((min i j : Nat) : Int) := by
      by_cases c : i < j
      · rw [if_neg (by omega), Nat.min_eq_left (by omega)]
      · by_cases c2 : j < i
        · rw [if_pos (by omega), Nat.min_eq_right (by omega)]
        · omega
    have hm : max i j < kss.length := by omega
    obtain ⟨r, ks, a1, a2, a3⟩ := t.at hm
    obtain ⟨b1, _⟩ := fine _ _ a2
    have hlo : min i j < ks.length := by omega
    have ez : tieN kss i j = ks[min i j] := by
      have eA : kss.getD (max i j) [] = ks := by rw [List.getD_eq_getElem?_getD, a2]; rfl
      unfold tieN
      rw [eA, List.getD_eq_getElem?_getD, List.getElem?_eq_getElem hlo]
      rfl
    rw [ez] at q
    exact ⟨_, rfl, _, rfl, _, rfl, _, _, rfl, c, _, _, _, rfl, rfl, SqL.of t.top, at_of (j := max i j) (v := V.ref r) e1 (by rw [List.getElem?_map, a1]; rfl), _, rfl, _, rfl, _, _, rfl, r, _, _, _, rfl, rfl, SqL.of a3, at_of (j := min i j) (v := V.int ks[min i j]) e2 (by rw [List.getElem?_map, List.getElem?_eq_getElem hlo]; rfl), q⟩
end
end K07

namespace K07
open PySem PySem.Spec PyProof.Rows L2 GL
abbrev sLot : Stmt := topS 14
abbrev sCheckL : Stmt := topS 17
-- gone ties_of
/-- a lot of so many people -/
structure Lot (n : Nat) (l : List Nat) : Prop where
  some : l ≠ []
  up : l.Pairwise (· < ·)
  low : ∀ p ∈ l, p < n
theorem up_len {n : Nat} : ∀ (l : List Nat) (m : Nat), l.Pairwise (· < ·) → (∀ p ∈ l, m ≤ p ∧ p < n) → l.length ≤ n - m
  | [], _, _, _ => Nat.zero_le _
  | a :: t, m, h, b => by
    obtain ⟨h1, h2⟩ := List.pairwise_cons.mp h
    have ba := b a (List.mem_cons_self ..)
    have ih := up_len t (a + 1) h2 fun p hp => ⟨h1 p hp, (b p (List.mem_cons_of_mem _ hp)).2⟩
    rw [List.length_cons]
    omega
theorem Lot.len {n : Nat} {l : List Nat} (h : Lot n l) : 1 ≤ l.length ∧ l.length ≤ n := by
  have := up_len l 0 h.up fun p hp => ⟨Nat.zero_le _, h.low p hp⟩
  have := List.length_pos_iff.mpr h.some
  omega
theorem trues_more (i : Nat) : (List.replicate (i + 1) true).map V.bl = (List.replicate i true).map V.bl ++ [V.bl true] := by
  rw [List.replicate_succ', List.map_append]
  rfl
theorem trues_all (n : Nat) : (List.replicate n true).all id = true := by
  induction n with
  | zero => rfl
  | succ n ih =>
    rw [List.replicate_succ, List.all_cons, ih]
    rfl
section
variable {P : Program} {w : World} {K : PySem.W.Frag} {mg : Str → Option Value} {base : Heap}
theorem scLot : FnScope ["many", "value", "person", "later"] ["many", "value"] (defScope sLot) := ⟨rfl, rfl, rfl, by decide +kernel, rfl, by decide +kernel, by decide +kernel⟩
def spLot (K : PySem.W.Frag) : Sp := fun vs H Q _ => ∃ (n : Nat) (o : Addr) (l : List Nat), vs = [.int n, .ref o] ∧ n ≤ 100 ∧ H o = some (.lst (natV l)) ∧ Lot n l ∧ ∀ H', Same H H' → Q (.bl true) H'
theorem ok_lot {f : Addr} {fd : FuncData} (F : Fun K "is_lot" "is_lot" sLot f fd) (T : Bi mg) (U : Use P w K mg base "is_below" ["value", "bound"] (spBelow K) 2) : FnOk P w K mg base CX0 3 f fd ["many", "value"] (spLot K) := by
  refine F.ok scLot (fun vs H Q E h => ?_) (fun cdv A outer s H vs Q E hr h => ?_)
  · obtain ⟨n, o, l, rfl, _⟩ := h
    rfl
  · obtain ⟨n, o, l, rfl, n100, ho, lot, q⟩ := h
    refine ⟨_, pss_cons (ps_if (PW.pt (pw_or (pt_not (pt_val (pe_callB call_isi (by rfl) T.isinstance (by decide +kernel) (pa_cons (pv 1) (pa_cons (pe_bltn (v := .ty "list") (by rfl) T.list PyProof.Rows.boot_list rfl) pa_nil)))))
        (pw_or1 (pt_not (pt_chain op_le op_le pe_int (pe_callB call_len_seq (by rfl) T.len PySem.boot_len (pa_cons (pv 1) pa_nil)) (pv 0)))))) (pss_one (ps_ret pe_bl)) pss_nil)
      (pss_cons (ps_if (pt_not (pt_val (pe_callB (cr_all rfl) (by rfl) T.all (by decide +kernel) (pa_cons (pe_lc (own := [("person", 2)]) (g := gName 2) (tt := tYes) rfl scLot.nd (pi_list (pv 1)) (blkOk_by (N := ["many", "value", "person", "later"]) (sc := defScope sLot) (by decide +kernel))
        (fun _ _ _ _ _ => pg_name (i := 2) scLot.nd rfl (Or.inl rfl)) (fun _ _ _ _ _ => pts_nil) (fun _ _ _ _ _ => pe_use U hr (by rfl) (pa_cons (pv 2) (pa_cons (pv 0) pa_nil)))) pa_nil)))) (pss_one (ps_ret pe_bl)) pss_nil)
      (pss_one (ps_ret (pe_callB (cr_all rfl) (by rfl) T.all (by decide +kernel) (pa_cons (pe_lc (own := [("person", 2), ("later", 3)]) (g := gTup K 2 (gCons (gName 2) (gCons (gName 3) gNil))) (tt := tYes) rfl scLot.nd
        (pi_zip (by rfl) T.zip (pa_cons (pv 1) (pa_cons (pe_slice sl_list (pv 1) (po_some pe_int) po_none) pa_nil))) (blkOk_by (N := ["many", "value", "person", "later"]) (sc := defScope sLot) (by decide +kernel))
        (fun _ _ _ _ _ => pg_tup rfl (pgs_cons (pg_name (i := 2) scLot.nd rfl (Or.inl rfl)) (pgs_cons (pg_name (i := 3) scLot.nd rfl (Or.inl rfl)) pgs_nil))) (fun _ _ _ _ _ => pts_nil) (fun _ _ _ _ _ => pe_cmpR op_lt (pv 2) (pv 3) (nomark _))) pa_nil))))), ?_⟩
    obtain ⟨l1, l2⟩ := lot.len
    have ll : (natV l).length = l.length := List.length_map _
    refine ⟨_, rfl, _, _, _, _, _, rfl, .ty "list", .base (.lst ho), kit_list (.list []), _, rfl, iteF ⟨_, rfl, o, _, rfl, .inl (SqL.of ho), _, _, rfl, rfl, _, rfl, ?_⟩⟩
    rw [decide_eq_true (by omega : (1 : Int) ≤ ((natV l).length : Int))]
    refine iteT ⟨_, rfl, _, _, rfl, rfl, _, rfl, ?_⟩
    rw [decide_eq_true (by omega : ((natV l).length : Int) ≤ (n : Int))]
    refine iteF ⟨_, rfl, o, rfl, ⟨_, SqL.of ho⟩, fun D hD => ?_⟩
    refine lc_list (K := K) (a := o) (xs := natV l) (fun i H' => Same H H' ∧ H' D = some (.lst ((List.replicate i true).map V.bl))) ⟨same_new hD, upd_same⟩ (fun i H' _ z => SqL.of (z.1 _ _ ho)) ?_ ?_
    · rintro i y H' hi ⟨s1, h1⟩
      unfold natV at hi
      rw [List.getElem?_map] at hi
      cases e : l[i]? with
      | none =>
        rw [e] at hi
        cases hi
      | some p =>
        rw [e] at hi
        cases hi
        have pl := lot.low p (List.mem_of_getElem? e)
        have il := (List.getElem?_eq_some_iff.mp e).1
        refine ⟨rfl, yes_of ⟨_, rfl, _, rfl, _, .int (p : Nat), n, rfl, .int _, ?_⟩⟩
        have z : below n (.int (p : Nat)) = true := by
          show (decide ((0 : Int) ≤ (p : Nat)) && decide (((p : Nat) : Int) < n)) = true
          rw [decide_eq_true (by omega : (0 : Int) ≤ (p : Nat)), decide_eq_true (by omega : ((p : Nat) : Int) < n)]
          rfl
        rw [z]
        refine ⟨_, h1, ?_, fun b o' e' => ?_, ?_⟩
        · rw [List.length_map, List.length_replicate]
          exact small1000 (by omega)
        · rw [upd_ne (ne_of_none e' hD)]
          exact s1 b o' e'
        · rw [upd_same, trues_more]
    · rintro H' ⟨s1, h1⟩
      refine ⟨D, _, rfl, SqL.of h1, _, rfl, ?_⟩
      rw [trues_all]
      refine iteF ⟨_, rfl, _, rfl, 1, rfl, o, _, rfl, SqL.of (s1 _ _ ho), fun c nc => ?_⟩
      rw [cut_one]
      obtain ⟨H2, e2, s2, f2⟩ := gen H' nc (.lst ((natV l).drop 1))
      rw [e2]
      clear e2
      have s12 := s1.trans s2
      refine ⟨o, c, _, _, rfl, SqL.of (s12 _ _ ho), SqL.of f2, fun D2 hD2 => ?_⟩
      have mn : min (natV l).length ((natV l).drop 1).length = l.length - 1 := by
        rw [List.length_drop, ll]
        omega
      refine lc_it (walk_zip (K := K) (a := o) (b := c) (xs := natV l) (ys := (natV l).drop 1) (n := l.length - 1) mn.symm) (fun i H' => Same H2 H' ∧ H' D2 = some (.lst ((List.replicate i true).map V.bl))) ⟨same_new hD2, upd_same⟩ (fun i H' _ z => ⟨SqL.of (z.1 _ _ (s12 _ _ ho)), SqL.of (z.1 _ _ f2)⟩) ?_ ?_
      · rintro i y H3 H4 hi ⟨s3, h3⟩ ⟨A2, x1, x2, rfl, nA, rfl, e1, e2⟩
        have i1 : i < l.length := by omega
        have i2 : i + 1 < l.length := by omega
        have e1' : (natV l)[i]? = some x1 := e1
        have e2' : ((natV l).drop 1)[i]? = some x2 := e2
        unfold natV at e1' e2'
        rw [List.getElem?_map, List.getElem?_eq_getElem i1] at e1'
        rw [List.getElem?_drop, Nat.add_comm 1 i, List.getElem?_map, List.getElem?_eq_getElem i2] at e2'
        cases e1'
        cases e2'
        have lt : l[i] < l[i + 1] := List.pairwise_iff_getElem.mp lot.up i (i + 1) i1 i2 (by omega)
        refine ⟨A2, _, rfl, SqT.of upd_same, rfl, _, _, rfl, _, _, rfl, rfl, rfl, yes_of ?_⟩
        refine ⟨_, rfl, _, rfl, _, _, rfl, rfl, (List.replicate i true).map V.bl, ?_, ?_, ?_⟩
        · rw [upd_ne (ne_of_none h3 nA)]
          exact h3
        · rw [List.length_map, List.length_replicate]
          exact small1000 (by omega)
        · refine ⟨fun b o' e' => ?_, ?_⟩
          · rw [upd_ne (ne_of_none e' hD2)]
            exact (same_new nA) b o' (s3 b o' e')
          · have z : decide (((l[i] : Nat) : Int) < ((l[i + 1] : Nat) : Int)) = true := decide_eq_true (by omega)
            rw [upd_same, trues_more, ← z]
      · rintro H3 ⟨s3, h3⟩
        refine ⟨D2, _, rfl, SqL.of h3, ?_⟩
        rw [trues_all]
        exact q _ (s12.trans s3)
theorem scCheckL : FnScope ["company", "lot"] ["company", "lot"] (defScope sCheckL) := ⟨rfl, rfl, rfl, by decide +kernel, rfl, by decide +kernel, by decide +kernel⟩
def spCheckL : Sp := fun vs H Q _ => ∃ (c o : Addr) (xs : List V) (l : List Nat), vs = [.ref c, .ref o] ∧ H c = some (.lst xs) ∧ xs.length ≤ 100 ∧ H o = some (.lst (natV l)) ∧ Lot xs.length l ∧ ∀ H', Same H H' → Q .non H'
theorem ok_checkL {f : Addr} {fd : FuncData} (F : Fun K "check_lot" "check_lot" sCheckL f fd) (T : Bi mg) (U : Use P w K mg base "is_lot" ["many", "value"] (spLot K) 3) : FnOk P w K mg base CX0 4 f fd ["company", "lot"] spCheckL := by
  refine F.ok scCheckL (fun vs H Q E h => ?_) (fun cdv A outer s H vs Q E hr h => ?_)
  · obtain ⟨c, o, xs, l, rfl, _⟩ := h
    rfl
  · obtain ⟨c, o, xs, l, rfl, hc, lx, ho, lot, q⟩ := h
    refine ⟨_, pss_one (ps_if (pt_not (pt_val (pe_use U hr (by rfl) (pa_cons (pe_callB call_len_seq (by rfl) T.len PySem.boot_len (pa_cons (pv 0) pa_nil)) (pa_cons (pv 1) pa_nil))))) (pss_one ps_never) pss_nil), ?_⟩
    exact ⟨_, rfl, c, _, rfl, .inl (SqL.of hc), _, rfl, xs.length, o, l, rfl, lx, ho, lot, fun H' s' => ⟨_, rfl, iteF (q _ s')⟩⟩
end
end K07

namespace K07
open PySem PySem.Spec PyProof.Rows L2 GL
/-! ### the table of all ties -/
structure Mat (H : Hp) (p : Addr) (ps : List Addr) (n : Nat) (f : Nat → Nat → V) : Prop where
  top : H p = some (.lst (ps.map V.ref))
  len : ps.length = n
  row : ∀ (i : Nat) (r : Addr), ps[i]? = some r → H r = some (.lst ((List.range n).map (f i)))
  nd : ps.Nodup
  np : p ∉ ps
theorem Mat.same {H H' : Hp} {p : Addr} {ps : List Addr} {n : Nat} {f : Nat → Nat → V} (m : Mat H p ps n f) (s : Same H H') : Mat H' p ps n f := ⟨s _ _ m.top, m.len, fun i r h => s _ _ (m.row i r h), m.nd, m.np⟩
theorem Mat.at {H : Hp} {p : Addr} {ps : List Addr} {n : Nat} {f : Nat → Nat → V} (m : Mat H p ps n f) {i : Nat} (hi : i < n) : ∃ r, ps[i]? = some r ∧ H r = some (.lst ((List.range n).map (f i))) := by
  have h2 : i < ps.length := by rw [m.len]; exact hi
  exact ⟨ps[i], List.getElem?_eq_getElem h2, m.row i _ (List.getElem?_eq_getElem h2)⟩
theorem Mat.congr {H : Hp} {p : Addr} {ps : List Addr} {n : Nat} {f g : Nat → Nat → V} (m : Mat H p ps n f) (e : ∀ i j, i < n → j < n → f i j = g i j) : Mat H p ps n g := ⟨m.top, m.len, fun i r h => by
  have hi : i < n := by rw [← m.len]; exact (List.getElem?_eq_some_iff.mp h).1
  rw [m.row i r h, List.map_congr_left fun j hj => e i j hi (List.mem_range.mp hj)], m.nd, m.np⟩
theorem Mat.set {H : Hp} {p r : Addr} {ps : List Addr} {n i j : Nat} {f : Nat → Nat → V} {v : V} (m : Mat H p ps n f) (hr : ps[i]? = some r) (hj : j < n) :
    Mat (upd H r (.lst (((List.range n).map (f i)).set j v))) p ps n fun a b => if a = i ∧ b = j then v else f a b := by
  have pr : p ≠ r := fun z => m.np (by rw [z]; exact List.mem_of_getElem? hr)
  refine ⟨by rw [upd_ne pr]; exact m.top, m.len, fun a q ha => ?_, m.nd, m.np⟩
  by_cases c : a = i
  · subst c
    rw [hr] at ha
    cases ha
    rw [upd_same]
    congr 2
    apply List.ext_getElem
    · rw [List.length_set, List.length_map, List.length_map]
    · intro b h1 h2
      rw [List.getElem_set, List.getElem_map, List.getElem_map, List.getElem_range]
      by_cases cb : j = b
      · subst cb
        rw [if_pos rfl, if_pos ⟨rfl, rfl⟩]
      · rw [if_neg cb, if_neg (fun z => cb z.2.symm)]
  · have qr : q ≠ r := fun z => by
      subst z
      have h1 := (List.getElem?_eq_some_iff.mp hr).1
      have h2 := (List.getElem?_eq_some_iff.mp ha).1
      have e := (List.getElem?_eq_some_iff.mp hr).2.trans (List.getElem?_eq_some_iff.mp ha).2.symm
      have nd := List.pairwise_iff_getElem.mp m.nd
      rcases Nat.lt_or_ge a i with z | z
      · exact nd a i h2 h1 z e.symm
      · exact nd i a h1 h2 (by omega) e
    rw [upd_ne qr, m.row a q ha]
    congr 2
    exact List.map_congr_left fun b _ => by rw [if_neg (fun z => c z.1)]
theorem ixN_nat {n j : Nat} (h : j < n) : ixN n (j : Int) = some j := by
  unfold ixN
  rw [if_pos (by omega), if_pos (by omega), Int.toNat_natCast]
def rLen (K : PySem.W.Frag) : List V → Hp → VK → Prop := fun xs H Q => ∃ p ys, xs = [.ref p] ∧ (SqL K H p ys ∨ SqT K H p ys) ∧ Q (.int ys.length) H
/-- the tie of two, none of one with itself -/
def tyV (kss : List (List Int)) (i j : Nat) : V := if i = j then .non else .int (tieN kss i j)
/-- the table when all above row m is put down, and r of row m -/
def ent (kss : List (List Int)) (m r i j : Nat) : V := if i ≠ j ∧ (max i j < m ∨ (max i j = m ∧ min i j < r)) then .int (tieN kss i j) else .non
theorem ent_zero (kss : List (List Int)) (i j : Nat) : ent kss 0 0 i j = .non := if_neg (by omega)
theorem ent_row (kss : List (List Int)) (m : Nat) : ent kss m m = ent kss (m + 1) 0 := by
  funext i j
  unfold ent
  by_cases h : i ≠ j ∧ (max i j < m ∨ (max i j = m ∧ min i j < m))
  · rw [if_pos h, if_pos (by omega)]
  · rw [if_neg h, if_neg (by omega)]
theorem ent_all (kss : List (List Int)) (n i j : Nat) (hi : i < n) (hj : j < n) : ent kss n 0 i j = tyV kss i j := by
  unfold ent tyV
  by_cases h : i = j
  · rw [if_neg (by omega), if_pos h]
  · rw [if_pos (by omega), if_neg h]
theorem ent_next (kss : List (List Int)) {m r : Nat} (h : r < m) : (fun a b => if a = m ∧ b = r then V.int (tieN kss m r) else (if a = r ∧ b = m then V.int (tieN kss m r) else ent kss m r a b)) = ent kss m (r + 1) := by
  funext i j
  unfold ent
  by_cases c1 : i = m ∧ j = r
  · obtain ⟨rfl, rfl⟩ := c1
    rw [if_pos ⟨rfl, rfl⟩, if_pos (by omega)]
  · rw [if_neg c1]
    by_cases c2 : i = r ∧ j = m
    · obtain ⟨rfl, rfl⟩ := c2
      rw [if_pos ⟨rfl, rfl⟩, if_pos (by omega), tieN_comm]
    · rw [if_neg c2]
      by_cases c3 : i ≠ j ∧ (max i j < m ∨ (max i j = m ∧ min i j < r))
      · rw [if_pos c3, if_pos (by omega)]
      · rw [if_neg c3, if_neg (by omega)]
theorem rep_non (n : Nat) : (List.replicate n [V.non]).flatten = List.replicate n V.non := by
  induction n with
  | zero => rfl
  | succ n ih =>
    rw [List.replicate_succ, List.replicate_succ, List.flatten_cons, ih]
    rfl
theorem rep_range (n : Nat) (v : V) : List.replicate n v = (List.range n).map fun _ => v := by
  apply List.ext_getElem
  · rw [List.length_replicate, List.length_map, List.length_range]
  · intro i h1 h2
    rw [List.getElem_replicate, List.getElem_map]
section
variable {P : Program} {w : World} {K : PySem.W.Frag} {mg : Str → Option Value} {base : Heap}
end
end K07

namespace K07
open PySem PySem.Spec PyProof.Rows L2 GL
-- gone first_parting
-- gone is_house
-- gone parting_person
/-! ### houses -/
/-- somebody outside has unlike ties to two of a lot -/
def partsB (kss : List (List Int)) (l : List Nat) (p : Nat) : Bool := decide (p ∉ l) && l.any fun m => decide (tieN kss p m ≠ tieN kss p (l.headD 0))
def partingOf (kss : List (List Int)) (l : List Nat) : Option Nat := (List.range kss.length).find? (partsB kss l)
def optV : Option Nat → V
  | none => .non
  | some p => .int (p : Nat)
theorem inV_nat (l : List Nat) (p : Nat) : inV (.int (p : Nat)) (natV l) = decide (p ∈ l) := by
  unfold inV natV
  induction l with
  | nil => rfl
  | cons a l ih =>
    rw [List.map_cons, List.any_cons, ih]
    show (((a : Nat) : Int) == (p : Int) || decide (p ∈ l)) = decide (p ∈ a :: l)
    by_cases h : a = p
    · subst h
      simp
    · have h' : ¬ p = a := fun z => h z.symm
      have h2 : ¬ (a : Int) = (p : Int) := by omega
      simp [h', h2]
theorem flat_nat (l : List Nat) : (natV l).all flatV = true := by
  unfold natV
  rw [List.all_map]
  exact List.all_eq_true.mpr fun _ _ => rfl
theorem find_none {n : Nat} {f : Nat → Bool} (h : ∀ p, p < n → f p = false) : (List.range n).find? f = none := List.find?_eq_none.mpr fun p hp => by
  rw [h p (List.mem_range.mp hp)]
  decide
theorem find_some {n m : Nat} {f : Nat → Bool} (hm : m < n) (h : ∀ p, p < m → f p = false) (hf : f m = true) : (List.range n).find? f = some m := by
  rw [List.find?_range_eq_some]
  exact ⟨hf, List.mem_range.mpr hm, fun j hj => by rw [h j hj]; rfl⟩
section
variable {P : Program} {w : World} {K : PySem.W.Frag} {mg : Str → Option Value} {base : Heap}
end
end K07

namespace K07
open PySem PySem.Spec PyProof.Rows L2 GL
theorem dts_ints {K : PySem.W.Frag} {H : Hp} : ∀ ks : List Int, Dts K H (ks.map V.int) (ks.map PyData.int)
  | [] => .nil
  | k :: ks => .cons (.int k) (dts_ints ks)
theorem dts_rows {K : PySem.W.Frag} {H : Hp} : ∀ {rs : List Addr} {kss : List (List Int)}, rs.length = kss.length → (∀ (i : Nat) r ks, rs[i]? = some r → kss[i]? = some ks → H r = some (.lst (ks.map V.int))) → Dts K H (rs.map V.ref) (kss.map rowP)
  | [], [], _, _ => .nil
  | [], _ :: _, l, _ => by simp at l
  | _ :: _, [], l, _ => by simp at l
  | r :: rs, ks :: kss, l, h => .cons (.lst (h 0 r ks rfl rfl) (dts_ints ks)) (dts_rows (Nat.succ.inj l) fun i r' ks' a b => h (i + 1) r' ks' a b)
theorem Tab.dt {K : PySem.W.Frag} {H : Hp} {c : Addr} {rs : List Addr} {kss : List (List Int)} (t : Tab H c rs kss) : Dt K H (.ref c) (tabP kss) := .lst t.top (dts_rows t.len t.row)
theorem rows_get {k : Int} {ds : List PyData} (n : Nat) : rowsOk k n ds = true ↔ ∀ (j : Nat) (d : PyData), ds[j]? = some d → rowOk k ((n + j : Nat) : Int) d = true := by
  induction ds generalizing n with
  | nil => exact ⟨fun _ j d h => by simp at h, fun _ => rfl⟩
  | cons a ds ih =>
    show (rowOk k n a && rowsOk k (n + 1) ds) = true ↔ _
    rw [Bool.and_eq_true, ih]
    constructor
    · rintro ⟨h1, h2⟩ j d h
      cases j with
      | zero =>
        cases h
        exact h1
      | succ j =>
        have := h2 j d h
        rwa [show n + 1 + j = n + (j + 1) by omega] at this
    · intro h
      refine ⟨h 0 a rfl, fun j d hd => ?_⟩
      have := h (j + 1) d hd
      rwa [show n + (j + 1) = n + 1 + j by omega] at this
theorem Fine.comp {k : Int} {kss : List (List Int)} (f : Fine k kss) (h1 : 1 ≤ kss.length) (h2 : kss.length ≤ 40) : compOk k (tabP kss) = true := by
  unfold tabP
  show ((decide (1 ≤ (kss.map rowP).length) && decide ((kss.map rowP).length ≤ 40)) && rowsOk k 0 (kss.map rowP)) = true
  rw [List.length_map, decide_eq_true h1, decide_eq_true h2, (rows_get 0).mpr]
  · rfl
  · intro j d hd
    rw [List.getElem?_map] at hd
    cases e : kss[j]? with
    | none =>
      rw [e] at hd
      cases hd
    | some ks =>
      rw [e] at hd
      cases hd
      obtain ⟨a, b⟩ := f j ks e
      show (decide (((ks.map PyData.int).length : Int) = ((0 + j : Nat) : Int)) && (ks.map PyData.int).all (below k)) = true
      rw [List.length_map, decide_eq_true (by omega), List.all_map]
      refine List.all_eq_true.mpr fun z hz => ?_
      obtain ⟨z0, z1⟩ := b z hz
      show (decide (0 ≤ z) && decide (z < k)) = true
      rw [decide_eq_true z0, decide_eq_true z1]
      rfl
def houseB (kss : List (List Int)) (l : List Nat) : Bool := (partingOf kss l).isNone
theorem opt_non (x : Option Nat) : decide (optV x = V.non) = x.isNone := by
  cases x with
  | none => rfl
  | some p => rfl
/-- value by name: lot, company, kinds -/
def gK : List Value → List Value → List Value
  | [], [l, c, k] => [k, c, l]
  | _, _ => []
def gKV : List V → List V → List V
  | [], [l, c, k] => [k, c, l]
  | _, _ => []
theorem gK_rel {vs : List V} {us : List Value} {zs : List V} {ws : List Value} (a : Vals vs us) (b : Vals zs ws) : Vals (gKV vs zs) (gK us ws) := by
  cases a with
  | cons _ _ => exact .nil
  | nil =>
    cases b with
    | nil => exact .nil
    | cons r1 b =>
      cases b with
      | nil => exact .nil
      | cons r2 b =>
        cases b with
        | nil => exact .nil
        | cons r3 b =>
          cases b with
          | nil => exact .cons r3 (.cons r2 (.cons r1 .nil))
          | cons _ _ => exact .nil
section
variable {P : Program} {w : World} {K : PySem.W.Frag} {mg : Str → Option Value} {base : Heap}
/-- what a function of a company and a lot is handed -/
structure Asked (H : Hp) (vs : List V) (kss : List (List Int)) (l : List Nat) : Prop where
  ex : ∃ (k : Int) (c o : Addr) (rs : List Addr), vs = [.int k, .ref c, .ref o] ∧ 2 ≤ k ∧ k ≤ 9 ∧ Tab H c rs kss ∧ Fine k kss ∧ H o = some (.lst (natV l))
  one : 1 ≤ kss.length
  most : kss.length ≤ 40
  lot : Lot kss.length l
end
end K07

namespace K07
open PySem PySem.Spec PyProof.Rows L2 GL
abbrev sRenamed : Stmt := topS 32
/-- a company all of whose lists are new since H0 -/
structure CoN (H0 H : Hp) (k : Int) (c : Addr) (n : Nat) : Prop where
  ex : ∃ rs kss, Tab H c rs kss ∧ kss.length = n ∧ Fine k kss ∧ c ∉ rs ∧ H0 c = none ∧ ∀ r ∈ rs, H0 r = none
theorem CoN.back {H0 H1 H : Hp} {k : Int} {c : Addr} {n : Nat} (h : CoN H1 H k c n) (f : ∀ a, H1 a = none → H0 a = none) : CoN H0 H k c n := by
  obtain ⟨rs, kss, t, l, fi, nc, n1, n2⟩ := h.ex
  exact ⟨rs, kss, t, l, fi, nc, f _ n1, fun r hr => f _ (n2 r hr)⟩
section
variable {P : Program} {w : World} {K : PySem.W.Frag} {mg : Str → Option Value} {base : Heap}
abbrev nRenamed : List Str := ["_law_generator_here", "_law_company_here", "_law_left", "_law_order", "_law_turn", "_law_place", "_law_person", "_law_mate"]
theorem scRenamed : FnScope nRenamed ["_law_generator_here", "_law_company_here"] (defScope sRenamed) := ⟨rfl, rfl, rfl, by decide +kernel, rfl, by decide +kernel, by decide +kernel⟩
def spRenamed : Sp := fun vs H Q _ => ∃ (g c : Addr) (rs : List Addr) (kss : List (List Int)) (k : Int) (n : Nat), vs = [.ref g, .ref c] ∧ Tab H c rs kss ∧ Fine k kss ∧ kss.length ≤ 60 ∧ c ≠ g ∧ g ∉ rs ∧ Gen H g (n + 5 * kss.length) ∧
  ∀ (p : Addr) (H' : Hp), But g H H' → Gen H' g n → CoN H H' k p kss.length → Q (.ref p) H'
theorem ok_renamed {f : Addr} {fd : FuncData} (F : Fun K "_law_renamed" "_law_renamed" sRenamed f fd) (T : Bi mg) (U : Use P w K mg base "_law_random" ["_law_generator_here", "_law_bound"] spRandom 2)
    (UT : Use P w K mg base "_law_tie" ["_law_company_here", "_law_one", "_law_other"] spTie 1) : FnOk P w K mg base CX0 3 f fd ["_law_generator_here", "_law_company_here"] spRenamed := by
  refine F.ok scRenamed (fun vs H Q E h => ?_) (fun cdv A outer s H vs Q E hr h => ?_)
  · obtain ⟨g, c, rs, kss, k, n, rfl, _⟩ := h
    rfl
  · obtain ⟨g, c, rs, kss, k, n, rfl, t, fine, m60, cg, gr, G, q⟩ := h
    have hr1 : Room 1 (A.deeper (envOfC "_law_renamed" (defScope sRenamed) s.heap.objs.size f cdv)) := hr.mono (by decide)
    refine ⟨_, pss_cons (ps_asg (pe_tup (pa_cons (pe_listRg rfl (by rfl) T.list (prg_1 (by rfl) T.range (pe_callB call_len_seq (by rfl) T.len PySem.boot_len (pa_cons (pv 1) pa_nil)))) (pa_cons (pe_lst pa_nil) pa_nil)))
          (pg_tup rfl (pgs_cons (pg_name (i := 2) scRenamed.nd rfl (Or.inl rfl)) (pgs_cons (pg_name (i := 3) scRenamed.nd rfl (Or.inr rfl)) pgs_nil))))
      (pss_cons (ps_for PassesOwn.never rfl (pi_range1 (by rfl) T.range (pa_cons (pe_callB call_len_seq (by rfl) T.len PySem.boot_len (pa_cons (pv 1) pa_nil)) pa_nil)) (pg_name (i := 4) scRenamed.nd rfl (Or.inl rfl))
        (pss_one (ps_expr (pe_bm PySem.F.plainAttrs_list PySem.F.slot_list_append PySem.F.type_list_append mt_append (pv 3) (pa_cons (pe_bm PySem.F.plainAttrs_list PySem.F.slot_list_pop PySem.F.type_list_pop mt_popAt (pv 2)
          (pa_cons (pe_use U hr (by rfl) (pa_cons (pv 0) (pa_cons (pe_callB call_len_seq (by rfl) T.len PySem.boot_len (pa_cons (pv 2) pa_nil)) pa_nil))) pa_nil)) pa_nil)))))
      (pss_one (ps_ret (pe_lc (own := [("_law_place", 5), ("_law_person", 6)]) (g := gTup K 2 (gCons (gName 5) (gCons (gName 6) gNil))) (tt := tYes)
          (te := tLc (iList K (tSl (rSlL K) (tVar 3) tNoPart (tPart (tVar 5)))) (gName 7) tYes (tCall spTie [] E0 (tCons (tVar 1) (tCons (tVar 6) (tCons (tVar 7) tNil)))) [7]) rfl scRenamed.nd (pi_enum (by rfl) T.enumerate (pa_cons (pv 3) pa_nil))
        (blkOk_by (N := nRenamed) (sc := defScope sRenamed) (by decide +kernel)) (fun _ _ _ _ _ => pg_tup rfl (pgs_cons (pg_name (i := 5) scRenamed.nd rfl (Or.inl rfl)) (pgs_cons (pg_name (i := 6) scRenamed.nd rfl (Or.inr rfl)) pgs_nil)))
        (fun _ _ _ _ _ => pts_nil)
        (fun _ _ _ _ _ => by exact (pe_lc (own := [("_law_mate", 7)]) (g := gName 7) (tt := tYes) rfl scRenamed.nd (pi_list (pe_slice sl_list (pv 3) po_none (po_some (pv 5))))
          (blkOk_by (N := nRenamed) (sc := relS (compScope (exprOf (stmtIn (defBody sRenamed) 2))) (defScope sRenamed)) (by decide +kernel)) (fun _ _ _ _ _ => pg_name (i := 7) scRenamed.nd rfl (Or.inl rfl))
          (fun _ _ _ _ _ => pts_nil) (fun _ _ _ _ _ => pe_use UT hr1 (by rfl) (pa_cons (pv 1) (pa_cons (pv 6) (pa_cons (pv 7) pa_nil)))))))))), ?_⟩
    obtain ⟨m, hm⟩ : ∃ m, kss.length = m := ⟨_, rfl⟩
    rw [hm] at q m60 G
    have lr : (rs.map V.ref).length = m := by rw [List.length_map, t.len, hm]
    refine ⟨_, rfl, c, _, rfl, .inl (SqL.of t.top), _, rfl, ?_, fun l hl => ⟨Nat.zero_le _, fun d hd => ⟨(by show 2 ≤ sizeLine; decide), fun tp htp => ?_⟩⟩⟩
    · rw [lr]
      exact RgOk.of_le (by omega) (by omega) (by omega) (by omega)
    have ld : l ≠ d := fun z => by
      rw [← z, upd_same] at hd
      cases hd
    have hd0 : H d = none := (same_new hl).free hd
    have htp0 : H tp = none := (same_new hl).free ((same_new hd).free htp)
    have gl : g ≠ l := G.ne hl
    have gd : g ≠ d := G.ne hd0
    have tl : tp ≠ l := fun z => by
      subst z
      rw [upd_ne ld, upd_same] at htp
      cases htp
    have td : tp ≠ d := fun z => by
      subst z
      rw [upd_same] at htp
      cases htp
    refine ⟨tp, _, rfl, SqT.of upd_same, rfl, _, _, rfl, _, _, rfl, rfl, ?_⟩
    obtain ⟨H1, e1, b1, h1l, h1d, G1⟩ : ∃ H1, upd (upd (upd H l (.lst (rgV 0 ((rs.map V.ref).length : Int)))) d (.lst [])) tp (.tup [.ref l, .ref d]) = H1 ∧ But g H H1 ∧ H1 l = some (.lst (natV (List.range m))) ∧ H1 d = some (.lst (natV [])) ∧ Gen H1 g (n + 5 * m) :=
      ⟨_, rfl, ((But.new hl).trans (But.new hd)).trans (But.new htp), by rw [upd_ne tl.symm, upd_ne ld, upd_same, lr, rg_nat], by rw [upd_ne td.symm, upd_same]; rfl, ((G.new hl).new hd).new htp⟩
    rw [e1]
    clear e1
    refine ⟨_, rfl, c, _, rfl, .inl (SqL.of (b1 _ _ t.top cg)), _, rfl, by omega, by omega, ?_⟩
    rw [lr]
    refine for_range (lo := 0) (n := (m : Int).toNat) (fun i σ H' => ∃ (L Fd : List Nat) (tv : Option V), σ = [some (.ref g), some (.ref c), some (.ref l), some (.ref d), tv, none, none, none] ∧ But g H H' ∧ H' l = some (.lst (natV L)) ∧ H' d = some (.lst (natV Fd)) ∧
        (Fd ++ L).Perm (List.range m) ∧ Fd.length = i ∧ Gen H' g (n + 5 * (m - i)))
      ⟨List.range m, [], none, rfl, b1, h1l, h1d, .refl _, rfl, G1⟩ ?_ ?_
    · rintro i σ H' hi ⟨L, Fd, tv, rfl, bt, h1, h2, pm, lf, G'⟩
      have cnt : (Fd ++ L).length = m := by rw [pm.length_eq, List.length_range]
      rw [List.length_append] at cnt
      have him : i < m := by omega
      have lL : (natV L).length = L.length := List.length_map _
      have G2 : Gen H' g (n + 5 * (m - (i + 1)) + 5) := by
        rw [show n + 5 * (m - (i + 1)) + 5 = n + 5 * (m - i) by omega]
        exact G'
      refine ⟨_, rfl, .inl ⟨rfl, _, SqL.of h2⟩, _, rfl, .inl ⟨rfl, _, SqL.of h1⟩, _, rfl, _, rfl, l, natV L, rfl, .inl (SqL.of h1), g, (natV L).length, n + 5 * (m - (i + 1)), rfl, by omega, by omega, G2, ?_⟩
      intro r H2 r0 r1 G3 bt2
      have h1' := bt2 l _ h1 gl.symm
      have h2' := bt2 d _ h2 gd.symm
      have rk : r.toNat < L.length := by omega
      refine ⟨l, natV L, r, r.toNat, V.int (L[r.toNat] : Nat), rfl, rfl, h1', by omega, by omega, seq_in r0 r1, ?_, ?_⟩
      · unfold natV
        rw [List.getElem?_map, List.getElem?_eq_getElem rk]
        rfl
      · refine ⟨d, natV Fd, _, rfl, rfl, by rw [upd_ne ld.symm]; exact h2', ?_, ?_⟩
        · unfold natV
          rw [List.length_map]
          exact small1000 (by omega)
        · refine ⟨L.eraseIdx r.toNat, Fd ++ [L[r.toNat]], _, rfl, ?_, ?_, ?_, ?_, ?_, ?_⟩
          · intro b o e nb
            have e' := bt2 b o (bt b o e nb) nb
            rw [upd_ne (ne_of_none e hd0), upd_ne (ne_of_none e hl)]
            exact e'
          · rw [upd_ne ld, upd_same, erase_map]
          · rw [upd_same]
            unfold natV
            rw [List.map_append]
            rfl
          · refine List.Perm.trans ?_ pm
            rw [List.append_assoc]
            exact List.Perm.append_left _ (perm_erase (List.getElem?_eq_getElem rk))
          · rw [List.length_append, lf]
            rfl
          · exact (G3.other gl.symm).other gd.symm
    · rintro σ H' ⟨L, os, tv, rfl, bt, h1, h2, pm, lf, G'⟩
      have cnt : (os ++ L).length = m := by rw [pm.length_eq, List.length_range]
      rw [List.length_append] at cnt
      have lf' : os.length = m := by omega
      have L0 : L = [] := List.length_eq_zero_iff.mp (by omega)
      subst L0
      rw [List.append_nil] at pm
      have nd : os.Nodup := pm.nodup_iff.mpr List.nodup_range
      have bd : ∀ j ∈ os, j < m := fun j hj => List.mem_range.mp (pm.mem_iff.mp hj)
      have t' : Tab H' c rs kss := t.but bt cg gr
      have G0 : Gen H' g n := G'.less (by omega)
      refine ⟨_, rfl, d, natV os, rfl, SqL.of h2, fun D hD => ?_⟩
      have lo : (natV os).length = os.length := List.length_map _
      refine lc_it (walk_enum (K := K) (a := d) (xs := natV os)) (fun i H5 => Same H' H5 ∧ ∃ rs kss, Tab H5 D rs kss ∧ kss.length = i ∧ Fine k kss ∧ D ∉ rs ∧ ∀ r ∈ rs, H' r = none) ⟨same_new hD, [], [], ⟨upd_same, rfl, fun i r ks h => by simp at h, List.nodup_nil⟩, rfl, Fine.nil, by simp, by simp⟩ (fun i H5 _ z => (z.1).seq (SqL.of h2)) ?_ ?_
      · rintro i y H5 H6 hi ⟨s1, rs', kss', u, lk, fine', nD, nR⟩ ⟨A2, x1, x2, rfl, nA, rfl, e1, e2⟩
        have e1' : x1 = .int (i : Nat) := (Option.some.inj e1).symm
        subst e1'
        rw [lo] at hi
        have e2' : x2 = .int (os[i] : Nat) := by
          have e3 : (natV os)[i]? = some x2 := e2
          unfold natV at e3
          rw [List.getElem?_map, List.getElem?_eq_getElem hi] at e3
          exact (Option.some.inj e3).symm
        subst e2'
        have s2 := s1.trans (same_new (o := .tup [.int (i : Nat), .int (os[i] : Nat)]) nA)
        refine ⟨A2, [.int (i : Nat), .int (os[i] : Nat)], rfl, SqT.of upd_same, rfl, _, _, rfl, _, _, rfl, rfl, rfl, yes_of ?_⟩
        refine ⟨_, rfl, _, rfl, _, rfl, d, _, rfl, SqL.of (s2 _ _ h2), fun C hC => ?_⟩
        rw [cut_to (by rw [lo]; omega)]
        have s3 := s2.trans (same_new (o := .lst ((natV os).take i)) hC)
        refine ⟨_, rfl, ⟨_, SqL.of upd_same⟩, fun D2 hD2 => ?_⟩
        refine lc_list (K := K) (a := C) (xs := (natV os).take i) (fun j H7 => Same (upd (upd H5 A2 (.tup [.int (i : Nat), .int (os[i] : Nat)])) C (.lst ((natV os).take i))) H7 ∧ ∃ ks : List Int, H7 D2 = some (.lst (ks.map V.int)) ∧ ks.length = j ∧ ∀ z ∈ ks, 0 ≤ z ∧ z < k)
          ⟨same_new hD2, [], upd_same, rfl, by simp⟩ (fun j H7 _ z => (z.1).seq (SqL.of upd_same)) ?_ ?_
        · rintro j y H7 hj ⟨s5, ks, h5, l5, b5⟩
          have hji : j < i := by
            have := (List.getElem?_eq_some_iff.mp hj).1
            rw [List.length_take] at this
            omega
          have ey : y = .int (os[j] : Nat) := by
            rw [List.getElem?_take_of_lt hji] at hj
            unfold natV at hj
            rw [List.getElem?_map, List.getElem?_eq_getElem (by omega)] at hj
            exact (Option.some.inj hj).symm
          subst ey
          have b1 : os[i] < m := bd _ (List.getElem_mem _)
          have b2 : os[j] < m := bd _ (List.getElem_mem _)
          have ne : os[i] ≠ os[j] := fun z => by
            have := (List.getElem_inj nd).mp z
            omega
          obtain ⟨z0, z1⟩ := tieN_in fine (by omega : os[i] < kss.length) (by omega : os[j] < kss.length) ne
          refine ⟨rfl, yes_of ?_⟩
          refine ⟨_, rfl, _, rfl, _, rfl, c, rs, kss, k, os[i], os[j], rfl, t'.same (s3.trans s5), fine, by omega, by omega, ne, _, h5, ?_, fun b o' zz => ?_, ks ++ [tieN kss os[i] os[j]], ?_, ?_, ?_⟩
          · rw [List.length_map]
            exact small1000 (by omega)
          · have nb : b ≠ D2 := ne_of_none zz hD2
            rw [upd_ne nb]
            exact s5 b o' zz
          · rw [upd_same, List.map_append]
            rfl
          · rw [List.length_append, l5]
            rfl
          · intro z' hz
            rcases List.mem_append.mp hz with hz | hz
            · exact b5 z' hz
            · rw [List.mem_singleton] at hz
              subst hz
              exact ⟨z0, z1⟩
        · rintro H7 ⟨s5, ks, h5, l5, b5⟩
          have l6 : ks.length = i := by
            rw [l5, List.length_take, lo]
            omega
          have nA' : ∀ b o', H5 b = some o' → H7 b = some o' := fun b o' e => s5 b o' ((same_new hC) b o' ((same_new nA) b o' e))
          have hp : H5 D2 = none := (same_new nA).free ((same_new hC).free hD2)
          refine ⟨rs'.map V.ref, nA' _ _ u.top, ?_, fun b o' e => ?_, ?_⟩
          · rw [List.length_map, u.len]
            exact small1000 (by omega)
          · rw [upd_ne (ne_of_none e hD)]
            exact nA' b o' (s1 b o' e)
          · obtain ⟨t2, n2⟩ := u.push nD (fun r _ o' e => nA' r o' e) hp h5
            exact ⟨_, _, t2, by rw [List.length_append, lk]; rfl, fine'.push (by omega) b5, n2, fun r hr => by
              rcases List.mem_append.mp hr with hr | hr
              · exact nR r hr
              · rw [List.mem_singleton] at hr
                subst hr
                exact s1.free hp⟩
      · rintro H5 ⟨s1, rs', kss', u, lk, fine', nD, nR⟩
        refine q D H5 (bt.trans (.of s1)) (G0.same s1) ?_
        rw [lo] at lk
        have c5 : CoN H' H5 k D kss.length := ⟨rs', kss', u, by rw [lk, lf', hm], fine', nD, hD, nR⟩
        rw [hm] at c5
        exact c5.back fun a ha => but_free bt G' ha
end
end K07

namespace K07
open PySem PySem.Spec PyProof.Rows L2 GL
abbrev sCompany : Stmt := topS 31
/-- between the turns of the loop that grows a company -/
def CI (H : Hp) (g f : Addr) (k : Int) (m n i : Nat) (σ : L2.St) (H' : Hp) : Prop := ∃ (tv sv wv rv lv : Option V), σ = [some (.ref g), some (.int k), some (.int m), some (.ref f), tv, sv, wv, rv, none, lv] ∧ But g H H' ∧ Gen H' g (n + 19000 - 300 * i) ∧
  ∃ rs kss, Tab H' f rs kss ∧ kss.length = i + 1 ∧ Fine k kss ∧ f ∉ rs ∧ H f = none ∧ ∀ r ∈ rs, H r = none
theorem CI.next {H H' H3 : Hp} {g f p : Addr} {k : Int} {m n i nn n' : Nat} {rs : List Addr} {kss : List (List Int)} {ks : List Int} {tv sv wv rv lv : Option V} (G0 : Gen H g nn) (bt : But g H H') (G' : Gen H' g n') (t : Tab H' f rs kss) (lk : kss.length = i + 1) (fine : Fine k kss) (nf : f ∉ rs)
    (hf : H f = none) (nR : ∀ r ∈ rs, H r = none) (b3 : But g H' H3) (G3 : Gen H3 g (n + 19000 - 300 * (i + 1))) (hp : H' p = none) (h3 : H3 p = some (.lst (ks.map V.int))) (lks : ks.length = i + 1) (bk : ∀ z ∈ ks, 0 ≤ z ∧ z < k) :
    H3 f = some (.lst (rs.map V.ref)) ∧ CI H g f k m n (i + 1) [some (.ref g), some (.int k), some (.int m), some (.ref f), tv, sv, wv, rv, none, lv] (upd H3 f (.lst (rs.map V.ref ++ [V.ref p]))) := by
  have gf : g ≠ f := G0.ne hf
  have gr : g ∉ rs := notin_new G0 nR
  obtain ⟨t2, n2⟩ := t.push nf (H4 := H3) (fun r hr o e => b3 r o e (fun z => gr (by rw [← z]; exact hr))) hp h3
  refine ⟨b3 _ _ t.top gf.symm, tv, sv, wv, rv, lv, rfl, ?_, G3.other gf.symm, _, _, t2, by rw [List.length_append, lk]; rfl, fine.push (by omega) bk, n2, hf, ?_⟩
  · intro b o e nb
    rw [upd_ne (ne_of_none e hf)]
    exact b3 b o (bt b o e nb) nb
  · intro r hr
    rcases List.mem_append.mp hr with hr | hr
    · exact nR r hr
    · rw [List.mem_singleton] at hr
      subst hr
      exact but_free bt G' hp
section
variable {P : Program} {w : World} {K : PySem.W.Frag} {mg : Str → Option Value} {base : Heap}
abbrev nCompany : List Str := ["_law_generator_here", "_law_kinds", "_law_most", "_law_found", "_law_turn", "_law_size", "_law_way", "_law_row", "_law_mate", "_law_like"]
theorem scCompany : FnScope nCompany ["_law_generator_here", "_law_kinds", "_law_most"] (defScope sCompany) := ⟨rfl, rfl, rfl, by decide +kernel, rfl, by decide +kernel, by decide +kernel⟩
def spCompany : Sp := fun vs H Q _ => ∃ (g : Addr) (k : Int) (m n : Nat), vs = [.ref g, .int k, .int m] ∧ 2 ≤ k ∧ k ≤ 9 ∧ 1 ≤ m ∧ m ≤ 40 ∧ Gen H g (n + 20000) ∧ ∀ (p : Addr) (H' : Hp) (l : Nat), But g H H' → Gen H' g n → 1 ≤ l → l ≤ m → CoN H H' k p l → Q (.ref p) H'
theorem ok_company {f : Addr} {fd : FuncData} (F : Fun K "_law_company" "_law_company" sCompany f fd) (T : Bi mg) (U : Use P w K mg base "_law_random" ["_law_generator_here", "_law_bound"] spRandom 2)
    (UT : Use P w K mg base "_law_tie" ["_law_company_here", "_law_one", "_law_other"] spTie 1) (UR : Use P w K mg base "_law_renamed" ["_law_generator_here", "_law_company_here"] spRenamed 3) :
    FnOk P w K mg base CX0 4 f fd ["_law_generator_here", "_law_kinds", "_law_most"] spCompany := by
  refine F.ok scCompany (fun vs H Q E h => ?_) (fun cdv A outer s H vs Q E hr h => ?_)
  · obtain ⟨g, k, m, n, rfl, _⟩ := h
    rfl
  · obtain ⟨g, k, m, n, rfl, k2, k9, m1, m40, G, q⟩ := h
    have hr2 : Room 2 (A.deeper (envOfC "_law_company" (defScope sCompany) s.heap.objs.size f cdv)) := hr.mono (by decide)
    have hr1 : Room 1 (A.deeper (envOfC "_law_company" (defScope sCompany) s.heap.objs.size f cdv)) := hr.mono (by decide)
    refine ⟨_, pss_cons (ps_set (i := 3) scCompany.nd rfl (Or.inr rfl) (pe_lst (pa_cons (pe_lst pa_nil) pa_nil)))
      (pss_cons (ps_for PassesOwn.never rfl (pi_range1 (by rfl) T.range (pa_cons (pe_use U hr2 (by rfl) (pa_cons (pv 0) (pa_cons (pv 2) pa_nil))) pa_nil)) (pg_name (i := 4) scCompany.nd rfl (Or.inl rfl))
        (pss_cons (ps_par (i := 5) (j := 6) rfl scCompany.nd rfl rfl (by decide) rfl rfl (pa_cons (pe_callB call_len_seq (by rfl) T.len PySem.boot_len (pa_cons (pv 3) pa_nil)) (pa_cons (pe_use U hr2 (by rfl) (pa_cons (pv 0) (pa_cons pe_int pa_nil))) pa_nil)) (by rfl))
        (pss_cons (ps_set (i := 7) scCompany.nd rfl (Or.inr rfl) (pe_lc (own := [("_law_mate", 8)]) (g := gName 8) (tt := tYes) rfl scCompany.nd (pi_range1 (by rfl) T.range (pa_cons (pv 5) pa_nil))
              (blkOk_by (N := nCompany) (sc := defScope sCompany) (by decide +kernel)) (fun _ _ _ _ _ => pg_name (i := 8) scCompany.nd rfl (Or.inl rfl)) (fun _ _ _ _ _ => pts_nil)
              (fun _ _ _ _ _ => pe_use U hr2 (by rfl) (pa_cons (pv 0) (pa_cons (pv 1) pa_nil)))))
        (pss_cons (ps_if (pt_cmpR op_eq (pv 6) pe_int (nomark _))
            (pss_one (ps_set (i := 7) scCompany.nd rfl (Or.inr rfl) (pe_op op_rep (pe_lst (pa_cons (pe_ix ix_list (pv 7) pe_int (fun _ _ => rfl)) pa_nil)) (pv 5))))
            (pss_one (ps_if (pt_cmpR op_gt (pv 6) pe_int (nomark _))
              (pss_cons (ps_set (i := 9) scCompany.nd rfl (Or.inr rfl) (pe_use U hr2 (by rfl) (pa_cons (pv 0) (pa_cons (pv 5) pa_nil))))
              (pss_one (ps_set (i := 7) scCompany.nd rfl (Or.inr rfl) (pe_lc (own := [("_law_mate", 8)]) (g := gName 8) (tt := tYes) rfl scCompany.nd (pi_range1 (by rfl) T.range (pa_cons (pv 5) pa_nil))
                (blkOk_by (N := nCompany) (sc := defScope sCompany) (by decide +kernel)) (fun _ _ _ _ _ => pg_name (i := 8) scCompany.nd rfl (Or.inl rfl)) (fun _ _ _ _ _ => pts_nil)
                (te := tIf (tTest (tOp rEq (tVar 8) (tVar 9))) (tOp (rIxL K) (tVar 7) (tC (.int 0))) (tCall spTie [] E0 (tCons (tVar 3) (tCons (tVar 9) (tCons (tVar 8) tNil)))))
                (fun _ _ _ _ _ => by exact (pe_ifExp (pt_cmpR op_eq (pv 8) (pv 9) (nomark _)) (pe_ix ix_list (pv 7) pe_int (fun _ _ => rfl)) (pe_use UT hr1 (by rfl) (pa_cons (pv 3) (pa_cons (pv 9) (pa_cons (pv 8) pa_nil))))))))))
              pss_nil)))
        (pss_one (ps_expr (pe_bm PySem.F.plainAttrs_list PySem.F.slot_list_append PySem.F.type_list_append mt_append (pv 3) (pa_cons (pv 7) pa_nil))))))))
      (pss_one (ps_ret (pe_use UR hr (by rfl) (pa_cons (pv 0) (pa_cons (pv 3) pa_nil)))))), ?_⟩
    refine ⟨Nat.zero_le _, fun l0 hl0 => ⟨one_le, fun f0 hf0 => ?_⟩⟩
    have hf00 : H f0 = none := (same_new hl0).free hf0
    have lf : l0 ≠ f0 := fun z => by
      rw [← z, upd_same] at hf0
      cases hf0
    have gf : g ≠ f0 := G.ne hf00
    refine ⟨_, rfl, _, rfl, g, m, n + 19995, rfl, by omega, by omega, ((G.new hl0).new hf0).less (by omega), fun r H1 r0 r1 G1 b1 => ?_⟩
    have b01 : But g H H1 := ((But.new hl0).trans (But.new hf0)).trans b1
    obtain ⟨tt, rfl⟩ : ∃ tt : Nat, r = (tt : Int) := ⟨r.toNat, by omega⟩
    refine ⟨_, rfl, by omega, by omega, ?_⟩
    refine for_range (lo := 0) (n := (tt : Int).toNat) (CI H g f0 k m n) ⟨none, none, none, none, none, rfl, b01, G1.less (by omega), [l0], [[]], ⟨b1 _ _ upd_same gf.symm, rfl, ?_, by simp⟩, rfl, ?_, ?_, hf00, ?_⟩ ?_ ?_
    · intro i r ks h1 h2
      have i0 : i = 0 := by
        have := (List.getElem?_eq_some_iff.mp h1).1
        simp at this
        exact this
      subst i0
      cases h1
      cases h2
      exact b1 _ _ (by rw [upd_ne lf, upd_same]; rfl) (G.ne hl0).symm
    · intro i ks h
      have i0 : i = 0 := by
        have := (List.getElem?_eq_some_iff.mp h).1
        simp at this
        exact this
      subst i0
      cases h
      exact ⟨rfl, by simp⟩
    · rw [List.mem_singleton]
      exact lf.symm
    · intro r hr
      rw [List.mem_singleton] at hr
      subst hr
      exact hl0
    · rintro i σ H' hi ⟨tv, sv, wv, rv, lv, rfl, bt, G', rs, kss, t, lk, fine, nf, _, nR⟩
      have gr : g ∉ rs := notin_new G nR
      have im : i + 1 ≤ 40 := by omega
      have lrs : (rs.map V.ref).length = i + 1 := by rw [List.length_map, t.len, lk]
      refine ⟨_, rfl, f0, _, rfl, .inl (SqL.of t.top), _, rfl, g, 4, n + 19000 - 300 * i - 5, rfl, by decide, by decide, G'.less (by omega), fun wy Ha w0 w1 Ga ba => ⟨_, _, rfl, ?_⟩⟩
      rw [lrs]
      refine ⟨_, rfl, _, rfl, by omega, by omega, fun D hD => ?_⟩
      have gD : D ≠ g := (Ga.ne hD).symm
      have hDH' : H' D = none := but_free ba Ga hD
      refine lc_it (walk_range (lo := 0) (n := ((i + 1 : Nat) : Int).toNat)) (fun j H5 => But g Ha H5 ∧ Gen H5 g (n + 19000 - 300 * i - 5 - 5 * j) ∧ ∃ ks : List Int, H5 D = some (.lst (ks.map V.int)) ∧ ks.length = j ∧ ∀ z ∈ ks, 0 ≤ z ∧ z < k)
          ⟨But.new hD, Ga.new hD, [], upd_same, rfl, by simp⟩ (fun _ _ _ _ => trivial) ?_ ?_
      · rintro j y H5 H6 hj ⟨b5, G5, ks, h5, l5, bb⟩ ⟨rfl, rfl⟩
        refine ⟨rfl, yes_of ?_⟩
        refine ⟨_, rfl, _, rfl, g, k, n + 19000 - 300 * i - 5 - 5 * (j + 1), rfl, by omega, by omega, G5.less (by omega), fun r2 H7 q0 q1 G7 b7 => ⟨_, b7 _ _ h5 gD, ?_, ?_, G7.other gD, ks ++ [r2], ?_, ?_, ?_⟩⟩
        · rw [List.length_map]
          exact small1000 (by omega)
        · intro b o e nb
          rw [upd_ne (ne_of_none e hD)]
          exact b7 b o (b5 b o e nb) nb
        · rw [upd_same, List.map_append]
          rfl
        · rw [List.length_append, l5]
          rfl
        · intro z hz
          rcases List.mem_append.mp hz with hz | hz
          · exact bb z hz
          · rw [List.mem_singleton] at hz
            subst hz
            exact ⟨q0, q1⟩
      · rintro H5 ⟨b5, G5, ks, h5, l5, bb⟩
        have l5' : ks.length = i + 1 := by omega
        have G5' : Gen H5 g (n + 19000 - 300 * (i + 1) + 10) := G5.less (by omega)
        have b05 : But g H' H5 := ba.trans b5
        have t5 : Tab H5 f0 rs kss := t.but b05 gf.symm gr
        have szf : (rs.map V.ref).length < sizeLine := by
          rw [lrs]
          exact small1000 (by omega)
        have first : ∃ z, ks[0]? = some z ∧ 0 ≤ z ∧ z < k := by
          cases ks with
          | nil => simp at l5'
          | cons z ks => exact ⟨z, rfl, bb z (List.mem_cons_self ..)⟩
        obtain ⟨z, z1, z2, z3⟩ := first
        have at0 : atI (ks.map V.int) 0 = some (.int z) := at_of (j := 0) rfl (by rw [List.getElem?_map, z1]; rfl)
        refine ⟨_, rfl, rfl, _, rfl, ite2 (fun cw => ?_) (fun cw => ?_)⟩
        · -- one tie to all
          refine ⟨_, rfl, D, _, _, _, rfl, rfl, SqL.of h5, at0, one_le, fun l hl => ⟨_, rfl, l, _, _, rfl, rfl, upd_same, by omega, by omega, ?_, fun p hp => ?_⟩⟩
          · show 1 * ((i + 1 : Nat) : Int).toNat ≤ sizeLine
            exact Nat.le_of_lt (small1000 (by omega))
          · have hl0 : H' l = none := but_free b05 G5 hl
            have hp0 : H' p = none := but_free b05 G5 ((same_new hl).free hp)
            obtain ⟨e1, e2⟩ := CI.next (H3 := upd (upd H5 l (.lst [V.int z])) p (.lst (List.replicate ((i + 1 : Nat) : Int).toNat [V.int z]).flatten)) (k := k) (m := m) (n := n) (ks := List.replicate ((i + 1 : Nat) : Int).toNat z) (tv := some (V.int (0 + (i : Int)))) (sv := some (V.int ((i + 1 : Nat) : Int))) (wv := some (V.int wy)) (rv := some (V.ref p)) (lv := lv) G bt G' t lk fine nf hf00 nR ((b05.trans (But.new hl)).trans (But.new hp)) (((G5'.new hl).new hp).less (by omega)) hp0 (by rw [upd_same, rep_one]) (by rw [List.length_replicate]; omega) (fun z' hz => by
              rw [List.eq_of_mem_replicate hz]
              exact ⟨z2, z3⟩)
            exact ⟨_, rfl, .inl ⟨rfl, _, SqL.of e1⟩, _, rfl, f0, _, _, rfl, rfl, e1, szf, e2⟩
        · refine ⟨_, rfl, _, _, rfl, rfl, _, rfl, ite2 (fun cg => ?_) (fun cg => ?_)⟩
          · refine ⟨_, rfl, _, rfl, g, ((i + 1 : Nat) : Int), n + 19000 - 300 * (i + 1) + 5, rfl, by omega, by omega, G5'.less (by omega), fun one Hb o0 o1 Gb bb6 => ?_⟩
            obtain ⟨u, rfl⟩ : ∃ u : Nat, one = (u : Int) := ⟨one.toNat, by omega⟩
            have h5b := bb6 _ _ h5 gD
            refine ⟨_, rfl, _, rfl, by omega, by omega, fun D2 hD2 => ?_⟩
            have b0b := b05.trans bb6
            refine lc_it (walk_range (lo := 0) (n := ((i + 1 : Nat) : Int).toNat)) (fun j H7 => Same Hb H7 ∧ ∃ ks : List Int, H7 D2 = some (.lst (ks.map V.int)) ∧ ks.length = j ∧ ∀ z ∈ ks, 0 ≤ z ∧ z < k)
              ⟨same_new hD2, [], upd_same, rfl, by simp⟩ (fun _ _ _ _ => trivial) ?_ ?_
            · rintro j y H7 H8 hj ⟨s7, ks7, h7, l7, bb7⟩ ⟨rfl, rfl⟩
              have more : ∀ (z : Int), 0 ≤ z → z < k → ∃ acc, H8 D2 = some (.lst acc) ∧ acc.length < sizeLine ∧ Same Hb (upd H8 D2 (.lst (acc ++ [V.int z]))) ∧
                  ∃ ks : List Int, (upd H8 D2 (.lst (acc ++ [V.int z]))) D2 = some (.lst (ks.map V.int)) ∧ ks.length = j + 1 ∧ ∀ z ∈ ks, 0 ≤ z ∧ z < k := by
                intro z z0 z1
                refine ⟨_, h7, ?_, fun b o e => ?_, ks7 ++ [z], ?_, ?_, ?_⟩
                · rw [List.length_map]
                  exact small1000 (by omega)
                · rw [upd_ne (ne_of_none e hD2)]
                  exact s7 b o e
                · rw [upd_same, List.map_append]
                  rfl
                · rw [List.length_append, l7]
                  rfl
                · intro z' hz
                  rcases List.mem_append.mp hz with hz | hz
                  · exact bb7 z' hz
                  · rw [List.mem_singleton] at hz
                    subst hz
                    exact ⟨z0, z1⟩
              refine ⟨rfl, yes_of ?_⟩
              refine ⟨_, rfl, _, rfl, rfl, _, rfl, ite2 (fun ce => ?_) (fun ce => ?_)⟩
              · exact ⟨_, rfl, D, _, _, _, rfl, rfl, SqL.of (s7 _ _ h5b), at0, more z z2 z3⟩
              · have ne : u ≠ j := fun z => ce (by
                  subst z
                  exact decide_eq_true (show V.int (0 + (u : Int)) = V.int (u : Int) by rw [Int.zero_add]))
                have tin := tieN_in fine (by omega : u < kss.length) (by omega : j < kss.length) ne
                refine ⟨_, rfl, _, rfl, _, rfl, f0, rs, kss, k, u, j, (show [V.ref f0, V.int (u : Int), V.int (0 + (j : Int))] = [V.ref f0, V.int (u : Int), V.int (j : Int)] by rw [Int.zero_add]), (t.but b0b gf.symm gr).same s7, fine, by omega, by omega, ne, more _ tin.1 tin.2⟩
            · rintro H7 ⟨s7, ks7, h7, l7, bb7⟩
              obtain ⟨e1, e2⟩ := CI.next (k := k) (m := m) (n := n) (tv := some (V.int (0 + (i : Int)))) (sv := some (V.int ((i + 1 : Nat) : Int))) (wv := some (V.int wy)) (rv := some (V.ref D2)) (lv := some (V.int (u : Int))) G bt G' t lk fine nf hf00 nR (b0b.trans (.of s7)) ((Gb.same s7).less (by omega)) (but_free b0b Gb hD2) h7 (by omega) bb7
              exact ⟨_, rfl, .inl ⟨rfl, _, SqL.of e1⟩, _, rfl, f0, _, _, rfl, rfl, e1, szf, e2⟩
          · obtain ⟨e1, e2⟩ := CI.next (k := k) (m := m) (n := n) (ks := ks) (tv := some (V.int (0 + (i : Int)))) (sv := some (V.int ((i + 1 : Nat) : Int))) (wv := some (V.int wy)) (rv := some (V.ref D)) (lv := lv) G bt G' t lk fine nf hf00 nR b05 (G5'.less (by omega)) hDH' h5 l5' bb
            exact ⟨_, rfl, .inl ⟨rfl, _, SqL.of e1⟩, _, rfl, f0, _, _, rfl, rfl, e1, szf, e2⟩
    · rintro σ H' ⟨tv, sv, wv, rv, lv, rfl, bt, G', rs, kss, t, lk, fine, nf, _, nR⟩
      have gr : g ∉ rs := notin_new G nR
      refine ⟨_, rfl, _, rfl, g, f0, rs, kss, k, n, rfl, t, fine, by omega, gf.symm, gr, G'.less (by omega), fun p Hp bp Gp cp => ?_⟩
      exact q p Hp kss.length (bt.trans bp) Gp (by omega) (by omega) (cp.back fun a ha => but_free bt G' ha)
end
end K07

namespace K07
open PySem PySem.Spec PyProof.Rows L2 GL
abbrev sSame : Stmt := topS 29
abbrev sKept : Stmt := topS 33
abbrev sLots : Stmt := topS 34
def nums (l : List Nat) : List Int := l.map fun (j : Nat) => (j : Int)
theorem natV_nums (l : List Nat) : natV l = (nums l).map V.int := by
  unfold natV nums
  rw [List.map_map]
  rfl
theorem nums_inj {l m : List Nat} (h : nums l = nums m) : l = m := by
  induction l generalizing m with
  | nil =>
    cases m with
    | nil => rfl
    | cons b m => cases h
  | cons a l ih =>
    cases m with
    | nil => cases h
    | cons b m =>
      obtain ⟨h1, h2⟩ := List.cons.inj h
      rw [ih h2, Int.ofNat.inj h1]
/-- all ascending lists of the first n numbers, in the order in which they are made -/
def rawLots : Nat → List (List Nat)
  | 0 => [[]]
  | n + 1 => rawLots n ++ (rawLots n).map (· ++ [n])
theorem raw_len : ∀ n, (rawLots n).length = 2 ^ n
  | 0 => rfl
  | n + 1 => by
    show (rawLots n ++ (rawLots n).map (· ++ [n])).length = _
    rw [List.length_append, List.length_map, raw_len n, Nat.pow_succ]
    omega
theorem raw_mem : ∀ (n : Nat) (l : List Nat), l ∈ rawLots n ↔ l.Pairwise (· < ·) ∧ ∀ p ∈ l, p < n
  | 0, l => by
    show l ∈ [[]] ↔ _
    rw [List.mem_singleton]
    constructor
    · rintro rfl
      exact ⟨.nil, by simp⟩
    · rintro ⟨_, h⟩
      cases l with
      | nil => rfl
      | cons a l => exact absurd (h a (List.mem_cons_self ..)) (by omega)
  | n + 1, l => by
    show l ∈ rawLots n ++ (rawLots n).map (· ++ [n]) ↔ _
    rw [List.mem_append, raw_mem n l, List.mem_map]
    constructor
    · rintro (⟨h1, h2⟩ | ⟨m, hm, rfl⟩)
      · exact ⟨h1, fun p hp => Nat.lt_succ_of_lt (h2 p hp)⟩
      · obtain ⟨h1, h2⟩ := (raw_mem n m).mp hm
        refine ⟨List.pairwise_append.mpr ⟨h1, List.pairwise_singleton .., fun a ha b hb => ?_⟩, fun p hp => ?_⟩
        · rw [List.mem_singleton] at hb
          subst hb
          exact h2 a ha
        · rcases List.mem_append.mp hp with hp | hp
          · exact Nat.lt_succ_of_lt (h2 p hp)
          · rw [List.mem_singleton] at hp
            omega
    · rintro ⟨h1, h2⟩
      by_cases c : n ∈ l
      · right
        obtain ⟨s, t, rfl⟩ := List.append_of_mem c
        obtain ⟨a1, a2, a3⟩ := List.pairwise_append.mp h1
        obtain ⟨b1, b2⟩ := List.pairwise_cons.mp a2
        have t0 : t = [] := by
          cases t with
          | nil => rfl
          | cons x t =>
            have := b1 x (List.mem_cons_self ..)
            have := h2 x (by simp)
            omega
        subst t0
        exact ⟨s, (raw_mem n s).mpr ⟨a1, fun p hp => a3 p hp n (List.mem_cons_self ..)⟩, rfl⟩
      · left
        refine ⟨h1, fun p hp => ?_⟩
        have := h2 p hp
        have : p ≠ n := fun z => c (by rw [← z]; exact hp)
        omega
/-- a list of lists of numbers, each at its place, new since H0 -/
structure Rows (H0 H : Hp) (a : Addr) (ts : List (Addr × List Nat)) : Prop where
  top : H a = some (.lst (ts.map fun t => V.ref t.1))
  row : ∀ t ∈ ts, H t.1 = some (.lst (natV t.2))
  new : ∀ t ∈ ts, H0 t.1 = none
theorem Rows.same {H0 H H' : Hp} {a : Addr} {ts : List (Addr × List Nat)} (r : Rows H0 H a ts) (s : Same H H') : Rows H0 H' a ts := ⟨s _ _ r.top, fun t ht => s _ _ (r.row t ht), r.new⟩
section
variable {P : Program} {w : World} {K : PySem.W.Frag} {mg : Str → Option Value} {base : Heap}
theorem scSame : FnScope ["_law_told", "_law_due"] ["_law_told", "_law_due"] (defScope sSame) := ⟨rfl, rfl, rfl, by decide +kernel, rfl, by decide +kernel, by decide +kernel⟩
def spSame (K : PySem.W.Frag) : Sp := fun vs H Q _ => ∃ (x y : V) (d : PyData), vs = [x, y] ∧ Dt K H x d ∧ Dt K H y d ∧ Nice 3 d ∧ Q (.bl true) H
theorem ok_same {f : Addr} {fd : FuncData} (F : Fun K "_law_same" "_law_same" sSame f fd) (T : Bi mg) : FnG P w K mg base CX0 1 f fd ["_law_told", "_law_due"] (spSame K) := by
  refine FnG.mk' F scSame (fun vs H Q E h => ?_) (fun cdv A outer s H vs Q E hgd hr h => ?_)
  · obtain ⟨x, y, d, rfl, _⟩ := h
    rfl
  · obtain ⟨x, y, d, rfl, hx, hy, ni, q⟩ := h
    have hgd' : (A.deeper (envOfC "_law_same" (defScope sSame) s.heap.objs.size f cdv)).guards = some [] := hgd
    obtain ⟨f1, f2, f3⟩ := ni.fits
    refine ⟨_, pss_one (ps_ret (pe_cmpR op_eq (pe_callB (call_repD hgd' hr.units) (by rfl) T.repr (by decide +kernel) (pa_cons (pv 0) pa_nil)) (pe_callB (call_repD hgd' hr.units) (by rfl) T.repr (by decide +kernel) (pa_cons (pv 1) pa_nil)) (nomark _))), ?_⟩
    refine ⟨_, rfl, x, d, rfl, hx, f1, f2, f3, _, rfl, y, d, rfl, hy, f1, f2, f3, rfl, ?_⟩
    rw [decide_eq_true rfl]
    exact q
abbrev nKept : List Str := ["_law_company_here", "_law_row"]
theorem scKept : FnScope nKept ["_law_company_here"] (defScope sKept) := ⟨rfl, rfl, rfl, by decide +kernel, rfl, by decide +kernel, by decide +kernel⟩
def rLstL (K : PySem.W.Frag) : List V → Hp → VK → Prop := fun xs H Q => ∃ p ys, xs = [.ref p] ∧ SqL K H p ys ∧ ∀ l, H l = none → Q (.ref l) (upd H l (.lst ys))
theorem call_lstL {X : Cx} : CallR X (.type "list") (rLstL X.K) := fun pins s σ H xs us Q I r ⟨p, ys, e, a, b⟩ => call_list_of pins s σ H xs us Q I r ⟨p, ys, e, .inl a, b⟩
def spKept : Sp := fun vs H Q _ => ∃ (c : Addr) (rs : List Addr) (kss : List (List Int)), vs = [.ref c] ∧ Tab H c rs kss ∧ kss.length ≤ 100 ∧
  ∀ (p : Addr) (ps : List Addr) (H' : Hp), Same H H' → Tab H' p ps kss → p ∉ ps → H p = none → (∀ r ∈ ps, H r = none) → Q (.ref p) H'
theorem ok_kept {f : Addr} {fd : FuncData} (F : Fun K "_law_kept" "_law_kept" sKept f fd) (T : Bi mg) : FnOk P w K mg base CX0 1 f fd ["_law_company_here"] spKept := by
  refine F.ok scKept (fun vs H Q E h => ?_) (fun cdv A outer s H vs Q E hr h => ?_)
  · obtain ⟨c, rs, kss, rfl, _⟩ := h
    rfl
  · obtain ⟨c, rs, kss, rfl, t, n100, q⟩ := h
    refine ⟨_, pss_one (ps_ret (pe_lc (own := [("_law_row", 1)]) (g := gName 1) (tt := tYes) (te := tCB (rLstL K) (tCons (tVar 1) tNil)) rfl scKept.nd (pi_list (pv 0)) (blkOk_by (N := nKept) (sc := defScope sKept) (by decide +kernel))
      (fun _ _ _ _ _ => pg_name (i := 1) scKept.nd rfl (Or.inl rfl)) (fun _ _ _ _ _ => pts_nil) (fun _ _ _ _ _ => pe_callTy call_lstL (by rfl) T.list PyProof.Rows.boot_list (pa_cons (pv 1) pa_nil)))), ?_⟩
    refine ⟨_, rfl, c, rfl, ⟨_, SqL.of t.top⟩, fun D hD => ?_⟩
    refine lc_list (K := K) (a := c) (xs := rs.map V.ref) (fun i H' => Same H H' ∧ ∃ ps, Tab H' D ps (kss.take i) ∧ D ∉ ps ∧ ∀ r ∈ ps, H r = none)
      ⟨same_new hD, [], ⟨upd_same, rfl, fun i r ks h => by simp at h, List.nodup_nil⟩, by simp, by simp⟩ (fun i H' _ z => SqL.of (z.1 _ _ t.top)) ?_ ?_
    · rintro i y H' hi ⟨s1, ps, u, nD, nR⟩
      rw [List.getElem?_map] at hi
      cases e : rs[i]? with
      | none =>
        rw [e] at hi
        cases hi
      | some r =>
        rw [e] at hi
        cases hi
        have il : i < kss.length := by rw [← t.len]; exact (List.getElem?_eq_some_iff.mp e).1
        have hrow := t.row i r kss[i] e (List.getElem?_eq_getElem il)
        refine ⟨rfl, yes_of ⟨_, rfl, r, _, rfl, SqL.of (s1 _ _ hrow), fun l hl => ?_⟩⟩
        obtain ⟨H3, e3, s3, f3⟩ := gen H' hl (.lst (kss[i].map V.int))
        rw [e3]
        clear e3
        obtain ⟨t2, n2⟩ := u.push nD (fun r _ o' e => s3 r o' e) hl f3
        refine ⟨ps.map V.ref, s3 _ _ u.top, ?_, ?_, ps ++ [l], ?_, n2, ?_⟩
        · rw [List.length_map, u.len, List.length_take]
          exact small1000 (by omega)
        · intro b o e'
          rw [upd_ne (ne_of_none e' hD)]
          exact s3 b o (s1 b o e')
        · rw [List.take_add_one, List.getElem?_eq_getElem il]
          exact t2
        · intro q hq
          rcases List.mem_append.mp hq with hq | hq
          · exact nR q hq
          · rw [List.mem_singleton] at hq
            subst hq
            exact s1.free hl
    · rintro H' ⟨s1, ps, u, nD, nR⟩
      rw [List.length_map, t.len, List.take_length] at u
      exact q D ps H' s1 u nD hD nR
abbrev nLots : List Str := ["_law_size", "_law_found", "_law_person", "_law_lot"]
theorem scLots : FnScope nLots ["_law_size"] (defScope sLots) := ⟨rfl, rfl, rfl, by decide +kernel, rfl, by decide +kernel, by decide +kernel⟩
def rowLe (x y : Addr × List Int) : Bool := decide (x.2 ≤ y.2)
def spLots : Sp := fun vs H Q _ => ∃ n : Nat, vs = [.int n] ∧ n ≤ 8 ∧ ∀ (p : Addr) (ts : List (Addr × List Nat)) (H' : Hp), Same H H' → H p = none → Rows H H' p ts → (ts.map (·.2)).Perm ((rawLots n).filter fun l => !l.isEmpty) → (ts.map fun t => nums t.2).Pairwise (· ≤ ·) → Q (.ref p) H'
theorem ok_lots {f : Addr} {fd : FuncData} (F : Fun K "_law_lots" "_law_lots" sLots f fd) (T : Bi mg) : FnOk P w K mg base CX0 1 f fd ["_law_size"] spLots := by
  refine F.ok scLots (fun vs H Q E h => ?_) (fun cdv A outer s H vs Q E hr h => ?_)
  · obtain ⟨n, rfl, _⟩ := h
    rfl
  · obtain ⟨n, rfl, n8, q⟩ := h
    refine ⟨_, pss_cons (ps_set (i := 1) scLots.nd rfl (Or.inl rfl) (pe_lst (pa_cons (pe_lst pa_nil) pa_nil)))
      (pss_cons (ps_for PassesOwn.never rfl (pi_range1 (by rfl) T.range (pa_cons (pv 0) pa_nil)) (pg_name (i := 2) scLots.nd rfl (Or.inr rfl))
        (pss_one (ps_set (i := 1) scLots.nd rfl (Or.inl rfl) (pe_op op_cat (pv 1) (pe_lc (own := [("_law_lot", 3)]) (g := gName 3) (tt := tYes) rfl scLots.nd (pi_list (pv 1)) (blkOk_by (N := nLots) (sc := defScope sLots) (by decide +kernel))
          (fun _ _ _ _ _ => pg_name (i := 3) scLots.nd rfl (Or.inl rfl)) (fun _ _ _ _ _ => pts_nil) (fun _ _ _ _ _ => by exact (pe_op op_cat (pv 3) (pe_lst (pa_cons (pv 2) pa_nil)))))))))
      (pss_one (ps_ret (pe_callB (cr_sortedL hr.units) (by rfl) T.sorted (by decide +kernel) (pa_cons (pe_lc (own := [("_law_lot", 3)]) (g := gName 3) (tt := tTest (tOp (rNeNil K) (tVar 3) (tLst tNil))) rfl scLots.nd (pi_list (pv 1)) (blkOk_by (N := nLots) (sc := defScope sLots) (by decide +kernel))
          (fun _ _ _ _ _ => pg_name (i := 3) scLots.nd rfl (Or.inl rfl)) (fun _ _ _ _ _ => by exact (pts_one (pt_cmpR (op_neNil hr.units) (pv 3) (pe_lst pa_nil) (nomark _)))) (fun _ _ _ _ _ => pv 3)) pa_nil))))), ?_⟩
    refine ⟨Nat.zero_le _, fun l0 hl0 => ⟨one_le, fun f0 hf0 => ?_⟩⟩
    have hf00 : H f0 = none := (same_new hl0).free hf0
    have lf : l0 ≠ f0 := fun z => by
      rw [← z, upd_same] at hf0
      cases hf0
    refine ⟨_, rfl, _, rfl, by omega, by omega, ?_⟩
    refine for_range (lo := 0) (n := (n : Int).toNat) (fun i σ H' => ∃ (a : Addr) (ts : List (Addr × List Nat)) (pv : Option V), σ = [some (.int n), some (.ref a), pv, none] ∧ Same H H' ∧ Rows H H' a ts ∧ ts.map (·.2) = rawLots i)
      ⟨f0, [(l0, [])], none, rfl, (same_new hl0).trans (same_new hf0), ⟨upd_same, fun t ht => ?_, fun t ht => ?_⟩, rfl⟩ ?_ ?_
    · rw [List.mem_singleton] at ht
      subst ht
      show upd _ f0 _ l0 = _
      rw [upd_ne lf, upd_same]
      rfl
    · rw [List.mem_singleton] at ht
      subst ht
      exact hl0
    · rintro i σ H' hi ⟨a, ts, pv0, rfl, s1, R, e1⟩
      have lts : ts.length = 2 ^ i := by
        rw [← raw_len i, ← e1, List.length_map]
      have p8 : 2 ^ i ≤ 128 := Nat.pow_le_pow_right (n := 2) (by decide) (by omega : i ≤ 7)
      refine ⟨_, rfl, _, rfl, a, rfl, ⟨_, SqL.of R.top⟩, fun D hD => ?_⟩
      refine lc_list (K := K) (a := a) (xs := ts.map fun t => V.ref t.1) (fun j H5 => Same H' H5 ∧ ∃ us, Rows H' H5 D us ∧ us.map (·.2) = ((ts.map (·.2)).take j).map (· ++ [i]))
        ⟨same_new hD, [], ⟨upd_same, by simp, by simp⟩, rfl⟩ (fun j H5 _ z => SqL.of (z.1 _ _ R.top)) ?_ ?_
      · rintro j y H5 hj ⟨s5, us, R5, e5⟩
        rw [List.getElem?_map] at hj
        cases e : ts[j]? with
        | none =>
          rw [e] at hj
          cases hj
        | some t =>
          rw [e] at hj
          cases hj
          have tm := List.mem_of_getElem? e
          have jl := (List.getElem?_eq_some_iff.mp e).1
          have lt : t.2.length ≤ i := by
            have : t.2 ∈ rawLots i := by rw [← e1]; exact List.mem_map_of_mem tm
            obtain ⟨w1, w2⟩ := (raw_mem i _).mp this
            have := up_len (n := i) t.2 0 w1 fun p hp => ⟨Nat.zero_le _, w2 p hp⟩
            omega
          refine ⟨rfl, yes_of ?_⟩
          refine ⟨_, rfl, _, rfl, one_le, fun l hl => ?_⟩
          obtain ⟨H6, e6, s6, f6⟩ := gen H5 hl (.lst [.int (0 + (i : Int))])
          rw [e6]
          clear e6
          refine ⟨t.1, l, _, _, rfl, rfl, s6 _ _ (s5 _ _ (R.row t tm)), f6, ?_, fun p hp => ?_⟩
          · unfold natV
            rw [List.length_map]
            exact Nat.le_of_lt (small1000 (by show t.2.length + 1 ≤ 1000; omega))
          · have ea : natV t.2 ++ [V.int (0 + (i : Int))] = natV (t.2 ++ [i]) := by
              unfold natV
              rw [List.map_append, Int.zero_add]
              rfl
            rw [ea]
            obtain ⟨H7, e7, s7, f7⟩ := gen H6 hp (.lst (natV (t.2 ++ [i])))
            rw [e7]
            clear e7
            have s57 := s6.trans s7
            have Dp : D ≠ p := ne_of_none (s6 _ _ R5.top) hp
            have hpH' : H' p = none := s5.free (s6.free hp)
            refine ⟨_, s57 _ _ R5.top, ?_, fun b o e' => ?_, us ++ [(p, t.2 ++ [i])], ⟨?_, ?_, ?_⟩, ?_⟩
            · have lu : us.length = j := by
                have := congrArg List.length e5
                rw [List.length_map, List.length_map, List.length_take, List.length_map] at this
                omega
              rw [List.length_map]
              exact small1000 (by omega)
            · rw [upd_ne (ne_of_none e' hD)]
              exact s57 b o (s5 b o e')
            · rw [upd_same, List.map_append]
              rfl
            · intro u hu
              rcases List.mem_append.mp hu with hu | hu
              · have h0 := R5.row u hu
                have uD : u.1 ≠ D := fun z => by
                  have := R5.new u hu
                  have h1 := R5.top
                  rw [z] at h0
                  rw [h0] at h1
                  have := HO.lst.inj (Option.some.inj h1)
                  unfold natV at this
                  cases us with
                  | nil => cases hu
                  | cons w us =>
                    cases e9 : u.2 with
                    | nil => rw [e9] at this; cases this
                    | cons x xs => rw [e9] at this; cases this
                rw [upd_ne uD]
                exact s57 _ _ h0
              · rw [List.mem_singleton] at hu
                subst hu
                show upd H7 D _ p = _
                rw [upd_ne Dp.symm]
                exact f7
            · intro u hu
              rcases List.mem_append.mp hu with hu | hu
              · exact R5.new u hu
              · rw [List.mem_singleton] at hu
                subst hu
                exact hpH'
            · rw [List.map_append, e5, take_more (· ++ [i]) (x := t.2) (by rw [List.getElem?_map, e]; rfl)]
              rfl
      · rintro H5 ⟨s5, us, R5, e5⟩
        have e5' : us.map (·.2) = (rawLots i).map (· ++ [i]) := by
          rw [e5, List.length_map, ← List.length_map (as := ts) (f := (·.2)), List.take_length, e1]
        have lus : us.length = 2 ^ i := by
          have := congrArg List.length e5'
          rw [List.length_map, List.length_map, raw_len] at this
          exact this
        refine ⟨a, D, _, _, rfl, rfl, s5 _ _ R.top, R5.top, ?_, fun p hp => ?_⟩
        · rw [List.length_map, List.length_map, lts, lus]
          exact Nat.le_of_lt (small1000 (by omega))
        · obtain ⟨H6, e6, s6, f6⟩ := gen H5 hp (.lst ((ts.map fun t => V.ref t.1) ++ (us.map fun t => V.ref t.1)))
          rw [e6]
          clear e6
          refine ⟨p, ts ++ us, _, rfl, s1.trans (s5.trans s6), ⟨?_, ?_, ?_⟩, ?_⟩
          · rw [f6, List.map_append]
          · intro t ht
            rcases List.mem_append.mp ht with ht | ht
            · exact s6 _ _ (s5 _ _ (R.row t ht))
            · exact s6 _ _ (R5.row t ht)
          · intro t ht
            rcases List.mem_append.mp ht with ht | ht
            · exact R.new t ht
            · exact s1.free (R5.new t ht)
          · rw [List.map_append, e1, e5']
            rfl
    · rintro σ H' ⟨a, ts, pv0, rfl, s1, R, e1⟩
      have nn : (n : Int).toNat = n := Int.toNat_natCast n
      rw [nn] at e1
      have lts : ts.length = 2 ^ n := by
        rw [← raw_len n, ← e1, List.length_map]
      have p8 : 2 ^ n ≤ 256 := Nat.pow_le_pow_right (n := 2) (by decide) (by omega : n ≤ 8)
      refine ⟨_, rfl, a, rfl, ⟨_, SqL.of R.top⟩, fun D hD => ?_⟩
      refine lc_list (K := K) (a := a) (xs := ts.map fun t => V.ref t.1) (fun j H5 => Same H' H5 ∧ H5 D = some (.lst (((ts.take j).filter fun t => !t.2.isEmpty).map fun t => V.ref t.1)))
        ⟨same_new hD, upd_same⟩ (fun j H5 _ z => SqL.of (z.1 _ _ R.top)) ?_ ?_
      · rintro j y H5 hj ⟨s5, h5⟩
        rw [List.getElem?_map] at hj
        cases e : ts[j]? with
        | none =>
          rw [e] at hj
          cases hj
        | some t =>
          rw [e] at hj
          cases hj
          have tm := List.mem_of_getElem? e
          have jl := (List.getElem?_eq_some_iff.mp e).1
          have ht := s5 _ _ (R.row t tm)
          have et : ∀ b, (natV t.2).isEmpty = b → t.2.isEmpty = b := fun b h => by
            cases e9 : t.2 with
            | nil => rw [e9] at h; exact h
            | cons x xs => rw [e9] at h; exact h
          have tk : (ts.take (j + 1)).filter (fun t => !t.2.isEmpty) = (ts.take j).filter (fun t => !t.2.isEmpty) ++ (if t.2.isEmpty then [] else [t]) := by
            rw [List.take_add_one, e, List.filter_append]
            show _ ++ [t].filter _ = _
            cases c : t.2.isEmpty with
            | true => rw [List.filter_cons_of_neg (by rw [c]; decide)]; rfl
            | false => rw [List.filter_cons_of_pos (by rw [c]; rfl)]; rfl
          refine ⟨rfl, ?_⟩
          refine ⟨_, rfl, Nat.zero_le _, fun l hl => ?_⟩
          obtain ⟨H6, e6, s6, f6⟩ := gen H5 hl (.lst [])
          rw [e6]
          clear e6
          refine ⟨t.1, l, natV t.2, rfl, rfl, SqL.of (s6 _ _ ht), SqL.of f6, _, rfl, ?_⟩
          have sz : (((ts.take j).filter fun t => !t.2.isEmpty).map fun t => V.ref t.1).length < sizeLine := by
            rw [List.length_map]
            have := List.length_filter_le (fun t : Addr × List Nat => !t.2.isEmpty) (ts.take j)
            rw [List.length_take] at this
            exact small1000 (by omega)
          cases c : (natV t.2).isEmpty with
          | true =>
            refine iteF ?_
            refine ⟨s5.trans s6, ?_⟩
            rw [tk, et _ c, if_pos rfl, List.append_nil]
            exact s6 _ _ h5
          | false =>
            refine iteT ?_
            refine ⟨_, rfl, _, s6 _ _ h5, sz, fun b o e' => ?_, ?_⟩
            · rw [upd_ne (ne_of_none e' hD)]
              exact s6 b o (s5 b o e')
            · rw [upd_same, tk, et _ c, List.map_append]
              rfl
      · rintro H5 ⟨s5, h5⟩
        rw [List.length_map, List.take_length] at h5
        refine ⟨D, (ts.filter fun t => !t.2.isEmpty).map fun t => (t.1, nums t.2), rfl, SqL.of (by rw [h5, List.map_map]; rfl), fun u hu => ?_, fun p hp => ?_⟩
        · obtain ⟨t, ht, rfl⟩ := List.mem_map.mp hu
          rw [← natV_nums]
          exact SqL.of (s5 _ _ (R.row t (List.mem_filter.mp ht).1))
        · obtain ⟨fs, hfs⟩ : ∃ fs, ts.filter (fun t => !t.2.isEmpty) = fs := ⟨_, rfl⟩
          rw [hfs]
          have em : (fs.map fun t => (t.1, nums t.2)).mergeSort (fun x y => decide (x.2 ≤ y.2)) = (fs.mergeSort fun x y => decide (nums x.2 ≤ nums y.2)).map fun t => (t.1, nums t.2) := (List.map_mergeSort (f := fun t : Addr × List Nat => (t.1, nums t.2)) (r := fun x y => decide (nums x.2 ≤ nums y.2)) (s := fun x y => decide (x.2 ≤ y.2)) (fun a _ b _ => rfl)).symm
          rw [em, List.map_map]
          have pm := List.mergeSort_perm fs fun x y => decide (nums x.2 ≤ nums y.2)
          have back : ∀ t ∈ fs.mergeSort (fun x y => decide (nums x.2 ≤ nums y.2)), t ∈ ts := fun t ht => by
            have := pm.mem_iff.mp ht
            rw [← hfs] at this
            exact (List.mem_filter.mp this).1
          obtain ⟨H7, e7, s7, f7⟩ := gen H5 hp (.lst ((fs.mergeSort fun x y => decide (nums x.2 ≤ nums y.2)).map ((fun t : Addr × List Int => V.ref t.1) ∘ fun t => (t.1, nums t.2))))
          rw [e7]
          clear e7
          have s57 := s5.trans s7
          refine q p (fs.mergeSort fun x y => decide (nums x.2 ≤ nums y.2)) H7 (s1.trans s57) (s1.free (s5.free hp)) ⟨f7, fun t ht => s57 _ _ (R.row t (back t ht)), fun t ht => R.new t (back t ht)⟩ ?_ ?_
          · refine (pm.map _).trans ?_
            rw [← e1, ← hfs, List.filter_map]
            exact .refl _
          · have := List.pairwise_mergeSort (le := fun x y : Addr × List Nat => decide (nums x.2 ≤ nums y.2)) (fun a b c h1 h2 => decide_eq_true (List.le_trans (of_decide_eq_true h1) (of_decide_eq_true h2))) (fun a b => by
              rcases List.le_total (nums a.2) (nums b.2) with h | h
              · rw [decide_eq_true h]; rfl
              · rw [decide_eq_true h, Bool.or_true]) fs
            exact List.pairwise_map.mpr (this.imp fun h => of_decide_eq_true h)
end
end K07

namespace K07
open PySem PySem.Spec PyProof.Rows L2 GL
theorem seq_by {a b : TS} {D : Ends} {σ : L2.St} {H : Hp} (R : L2.St → Hp → Prop) (h1 : ∀ nx : L2.St → Hp → Prop, (∀ σ' H', R σ' H' → nx σ' H') → a { D with nx := nx } σ H) (h2 : ∀ σ' H', R σ' H' → b D σ' H') : tSeq a b D σ H := h1 _ h2
/-! ### the nets of a company -/
theorem getD_map_range {α : Type} (f : Nat → α) (d : α) {n i : Nat} (h : i < n) : ((List.range n).map f).getD i d = f i := by
  rw [List.getD_eq_getElem?_getD, List.getElem?_map, List.getElem?_range h]
  rfl
/-- whose ties have been gone through: all of the persons ahead of m, and those of m to the persons ahead of r -/
def Seen (m r i j : Nat) : Prop := i ≠ j ∧ (max i j < m ∨ (max i j = m ∧ min i j < r))
instance (m r i j : Nat) : Decidable (Seen m r i j) := by unfold Seen; exact inferInstance
/-- bits by a test -/
def bitsBy (n : Nat) (f : Nat → Bool) : Nat := ((List.range n).filter f).foldl (fun b p => b ||| 2 ^ p) 0
theorem fold_bit (j : Nat) : ∀ (l : List Nat) (b : Nat), (l.foldl (fun b p => b ||| 2 ^ p) b).testBit j = (b.testBit j || decide (j ∈ l))
  | [], b => by simp
  | p :: l, b => by
    rw [List.foldl_cons, fold_bit j l, or_pow]
    by_cases h : p = j
    · subst h
      simp
    · have h' : ¬ j = p := fun z => h z.symm
      simp [h, h']
theorem bitsBy_bit (n : Nat) (f : Nat → Bool) (j : Nat) : (bitsBy n f).testBit j = (decide (j < n) && f j) := by
  unfold bitsBy
  rw [fold_bit, Nat.zero_testBit, Bool.false_or]
  by_cases h : j < n <;> cases e : f j <;> simp [h, e]
def bitsN (l : List Nat) : Nat := l.foldl (fun b p => b ||| 2 ^ p) 0
theorem bitsN_bit (l : List Nat) (j : Nat) : (bitsN l).testBit j = decide (j ∈ l) := by
  unfold bitsN
  rw [fold_bit, Nat.zero_testBit, Bool.false_or]
/-- the bits of those to whom i has a tie of the kind k, as far as gone through -/
def netN (kss : List (List Int)) (m r : Nat) (k : Int) (i : Nat) : Nat := bitsBy kss.length fun j => decide (Seen m r i j) && decide (tieN kss i j = k)
theorem netN_bit (kss : List (List Int)) (m r : Nat) (k : Int) (i j : Nat) : (netN kss m r k i).testBit j = (decide (j < kss.length) && (decide (Seen m r i j) && decide (tieN kss i j = k))) := bitsBy_bit _ _ _
theorem seen_row {m i j : Nat} : Seen m m i j ↔ Seen (m + 1) 0 i j := by unfold Seen; omega
theorem seen_next {m r i j : Nat} (h : r < m) : Seen m (r + 1) i j ↔ Seen m r i j ∨ (i = m ∧ j = r) ∨ (i = r ∧ j = m) := by unfold Seen; omega
theorem netN_row (kss : List (List Int)) (m : Nat) : netN kss m m = netN kss (m + 1) 0 := by
  funext k i
  refine Nat.eq_of_testBit_eq fun j => ?_
  rw [netN_bit, netN_bit, decide_eq_decide.mpr (seen_row (m := m) (i := i) (j := j))]
theorem netN_zero (kss : List (List Int)) (k : Int) (i : Nat) : netN kss 0 0 k i = 0 := by
  refine Nat.eq_of_testBit_eq fun j => ?_
  rw [netN_bit, decide_eq_false (fun z : Seen 0 0 i j => by unfold Seen at z; omega), Nat.zero_testBit]
  simp
theorem netN_full (kss : List (List Int)) (k : Int) {i j : Nat} (hi : i < kss.length) : (netN kss kss.length 0 k i).testBit j = (decide (j < kss.length) && (decide (i ≠ j) && decide (tieN kss i j = k))) := by
  rw [netN_bit]
  by_cases h : j < kss.length
  · have : Seen kss.length 0 i j ↔ i ≠ j := by unfold Seen; omega
    rw [decide_eq_decide.mpr this]
  · simp [h]
theorem netN_iff {kss : List (List Int)} {m r : Nat} {k : Int} {i j : Nat} : (netN kss m r k i).testBit j = true ↔ j < kss.length ∧ Seen m r i j ∧ tieN kss i j = k := by
  rw [netN_bit]
  simp
/-- the next tie, of m and r -/
theorem netN_next (kss : List (List Int)) {m r : Nat} (h : r < m) (hm : m < kss.length) : netN kss m (r + 1) = fun k i => if k = tieN kss m r ∧ i = m then netN kss m r k m ||| 2 ^ r else if k = tieN kss m r ∧ i = r then netN kss m r k r ||| 2 ^ m else netN kss m r k i := by
  funext k i
  refine Nat.eq_of_testBit_eq fun j => ?_
  rw [Bool.eq_iff_iff, netN_iff, seen_next h]
  by_cases c1 : k = tieN kss m r ∧ i = m
  · rw [if_pos c1, or_pow, Bool.or_eq_true, netN_iff, decide_eq_true_eq]
    obtain ⟨rfl, rfl⟩ := c1
    constructor
    · rintro ⟨x, y | y | y, z⟩
      · exact .inl ⟨x, y, z⟩
      · exact .inr y.2.symm
      · omega
    · rintro (⟨x, y, z⟩ | rfl)
      · exact ⟨x, .inl y, z⟩
      · exact ⟨by omega, .inr (.inl ⟨rfl, rfl⟩), rfl⟩
  · rw [if_neg c1]
    by_cases c2 : k = tieN kss m r ∧ i = r
    · rw [if_pos c2, or_pow, Bool.or_eq_true, netN_iff, decide_eq_true_eq]
      obtain ⟨rfl, rfl⟩ := c2
      constructor
      · rintro ⟨x, y | y | y, z⟩
        · exact .inl ⟨x, y, z⟩
        · omega
        · exact .inr y.2.symm
      · rintro (⟨x, y, z⟩ | rfl)
        · exact ⟨x, .inl y, z⟩
        · exact ⟨hm, .inr (.inr ⟨rfl, rfl⟩), tieN_comm ..⟩
    · rw [if_neg c2, netN_iff]
      constructor
      · rintro ⟨x, y | ⟨rfl, rfl⟩ | ⟨rfl, rfl⟩, z⟩
        · exact ⟨x, y, z⟩
        · exact (c1 ⟨z.symm, rfl⟩).elim
        · exact (c2 ⟨by rw [tieN_comm, z], rfl⟩).elim
      · rintro ⟨x, y, z⟩
        exact ⟨x, .inl y, z⟩
/-- a kind that no tie had so far -/
theorem netN_new {kss : List (List Int)} {m r : Nat} {k : Int} (h : ∀ i j, i < kss.length → j < kss.length → Seen m r i j → tieN kss i j ≠ k) {i : Nat} (hi : i < kss.length) : netN kss m r k i = 0 := by
  refine Nat.eq_of_testBit_eq fun j => ?_
  rw [netN_bit, Nat.zero_testBit]
  by_cases c : j < kss.length ∧ Seen m r i j
  · simp [h i j hi c.1 c.2]
  · by_cases c2 : j < kss.length
    · have : ¬ Seen m r i j := fun z => c ⟨c2, z⟩
      simp [this]
    · simp [c2]
theorem rep_zero (n : Nat) : (List.replicate n [V.int 0]).flatten = (List.range n).map fun _ => V.int 0 := by
  rw [← rep_range]
  induction n with
  | zero => rfl
  | succ n ih =>
    rw [List.replicate_succ, List.replicate_succ, List.flatten_cons, ih]
    rfl
/-- a dict of lists of n numbers: at the kind k the list of all g k i -/
structure NetsAt (H0 H : Hp) (d : Addr) (n : Nat) (es : List (Int × Addr)) (g : Int → Nat → Nat) : Prop where
  top : H d = some (.dK (es.map fun e => ((Sum.inl e.1 : Key), V.ref e.2)))
  row : ∀ e ∈ es, H e.2 = some (.lst ((List.range n).map fun i => V.int ((g e.1 i : Nat) : Int)))
  newd : H0 d = none
  new : ∀ e ∈ es, H0 e.2 = none
  nk : (es.map (·.1)).Nodup
  na : (es.map (·.2)).Nodup
theorem NetsAt.same {H0 H H' : Hp} {d : Addr} {n : Nat} {es : List (Int × Addr)} {g : Int → Nat → Nat} (m : NetsAt H0 H d n es g) (s : Same H H') : NetsAt H0 H' d n es g := ⟨s _ _ m.top, fun e h => s _ _ (m.row e h), m.newd, m.new, m.nk, m.na⟩
theorem NetsAt.ned {H0 H : Hp} {d : Addr} {n : Nat} {es : List (Int × Addr)} {g : Int → Nat → Nat} (m : NetsAt H0 H d n es g) {e : Int × Addr} (h : e ∈ es) : e.2 ≠ d := fun z => by
  have a := m.row e h
  rw [z, m.top] at a
  cases a
theorem NetsAt.congr {H0 H : Hp} {d : Addr} {n : Nat} {es : List (Int × Addr)} {g g' : Int → Nat → Nat} (m : NetsAt H0 H d n es g) (e : ∀ p ∈ es, ∀ i, i < n → g' p.1 i = g p.1 i) : NetsAt H0 H d n es g' := ⟨m.top, fun p h => by
  rw [m.row p h]
  congr 2
  exact List.map_congr_left fun i hi => by rw [e p h i (List.mem_range.mp hi)], m.newd, m.new, m.nk, m.na⟩
theorem mem_fst {es : List (Int × Addr)} {k : Int} : k ∈ es.map (·.1) ↔ ∃ a, (k, a) ∈ es := by
  rw [List.mem_map]
  constructor
  · rintro ⟨⟨k', a⟩, h, rfl⟩
    exact ⟨a, h⟩
  · rintro ⟨a, h⟩
    exact ⟨(k, a), h, rfl⟩
theorem nodup_snd {es : List (Int × Addr)} (h : (es.map (·.2)).Nodup) {p q : Int × Addr} (hp : p ∈ es) (hq : q ∈ es) (e : p.2 = q.2) : p = q := by
  induction es with
  | nil => simp at hp
  | cons x es ih =>
    rw [List.map_cons, List.nodup_cons] at h
    rcases List.mem_cons.mp hp with rfl | hp
    · rcases List.mem_cons.mp hq with rfl | hq
      · rfl
      · exact (h.1 (by rw [e]; exact List.mem_map_of_mem hq)).elim
    · rcases List.mem_cons.mp hq with rfl | hq
      · exact (h.1 (by rw [← e]; exact List.mem_map_of_mem ‹p ∈ es›)).elim
      · exact ih h.2 ‹p ∈ es› hq
theorem nodup_fst {es : List (Int × Addr)} (h : (es.map (·.1)).Nodup) {p q : Int × Addr} (hp : p ∈ es) (hq : q ∈ es) (e : p.1 = q.1) : p = q := by
  induction es with
  | nil => simp at hp
  | cons x es ih =>
    rw [List.map_cons, List.nodup_cons] at h
    rcases List.mem_cons.mp hp with rfl | hp
    · rcases List.mem_cons.mp hq with rfl | hq
      · rfl
      · exact (h.1 (by rw [e]; exact List.mem_map_of_mem hq)).elim
    · rcases List.mem_cons.mp hq with rfl | hq
      · exact (h.1 (by rw [← e]; exact List.mem_map_of_mem ‹p ∈ es›)).elim
      · exact ih h.2 ‹p ∈ es› hq
/-- one number of one list is put -/
theorem NetsAt.set {H0 H : Hp} {d : Addr} {n : Nat} {es : List (Int × Addr)} {g : Int → Nat → Nat} (m : NetsAt H0 H d n es g) {e : Int × Addr} (h : e ∈ es) {p v : Nat} (hp : p < n) :
    NetsAt H0 (upd H e.2 (.lst (((List.range n).map fun i => V.int ((g e.1 i : Nat) : Int)).set p (.int ((v : Nat) : Int))))) d n es (fun k i => if k = e.1 ∧ i = p then v else g k i) := by
  refine ⟨by rw [upd_ne (m.ned h).symm]; exact m.top, fun q hq => ?_, m.newd, m.new, m.nk, m.na⟩
  by_cases c : q.2 = e.2
  · have := nodup_snd m.na hq h c
    subst this
    rw [upd_same]
    congr 2
    refine List.ext_getElem? fun i => ?_
    rw [List.getElem?_set, List.length_map, List.length_range]
    by_cases hi : i < n
    · rw [List.getElem?_map, List.getElem?_range hi, List.getElem?_map, List.getElem?_range hi]
      by_cases ci : p = i
      · subst ci
        simp [hi]
      · have : ¬ i = p := fun z => ci z.symm
        simp [ci, this]
    · rw [List.getElem?_eq_none (by simp; omega), List.getElem?_eq_none (by simp; omega)]
      by_cases ci : p = i
      · omega
      · simp [ci]
  · rw [upd_ne c, m.row q hq]
    have : ¬ q.1 = e.1 := fun z => c (by rw [nodup_fst m.nk hq h z])
    simp [this]
theorem val_of {es : List (Int × Addr)} {k : Int} {a : Addr} (h : (es.map (·.1)).Nodup) (hm : (k, a) ∈ es) : valV (es.map fun e => ((Sum.inl e.1 : Key), V.ref e.2)) (Sum.inl k) = some (.ref a) := by
  unfold valV
  have : (es.map fun e => ((Sum.inl e.1 : Key), V.ref e.2)).find? (fun kv => decide (kv.1 = (Sum.inl k : Key))) = some (Sum.inl k, V.ref a) := by
    induction es with
    | nil => simp at hm
    | cons x es ih =>
      rw [List.map_cons, List.nodup_cons] at h
      rw [List.map_cons, List.find?_cons]
      rcases List.mem_cons.mp hm with rfl | hm
      · simp
      · have : ¬ x.1 = k := fun z => h.1 (by rw [z]; exact mem_fst.mpr ⟨a, hm⟩)
        have e : decide ((Sum.inl x.1 : Key) = Sum.inl k) = false := decide_eq_false fun z => this (Sum.inl.inj z)
        simp only [e]
        exact ih h.2 hm
  rw [this]
  rfl
theorem val_no {es : List (Int × Addr)} {k : Int} (h : k ∉ es.map (·.1)) : valV (es.map fun e => ((Sum.inl e.1 : Key), V.ref e.2)) (Sum.inl k) = none := by
  unfold valV
  have : (es.map fun e => ((Sum.inl e.1 : Key), V.ref e.2)).find? (fun kv => decide (kv.1 = (Sum.inl k : Key))) = none := by
    rw [List.find?_eq_none]
    intro x hx
    obtain ⟨e, he, rfl⟩ := List.mem_map.mp hx
    simp only [decide_eq_true_eq]
    exact fun z => h (by rw [← Sum.inl.inj z]; exact List.mem_map_of_mem he)
  rw [this]
  rfl
theorem put_no {es : List (Int × Addr)} {k : Int} {v : V} (h : k ∉ es.map (·.1)) : putK (es.map fun e => ((Sum.inl e.1 : Key), V.ref e.2)) (Sum.inl k) v = (es.map fun e => ((Sum.inl e.1 : Key), V.ref e.2)) ++ [(Sum.inl k, v)] := by
  unfold putK
  rw [valV_any, val_no h]
  rfl
/-- all kinds that were seen are there -/
def Cov (kss : List (List Int)) (m r : Nat) (es : List (Int × Addr)) : Prop := ∀ i j, i < kss.length → j < kss.length → Seen m r i j → tieN kss i j ∈ es.map (·.1)
def NetsIn (kss : List (List Int)) (H : Hp) (d : Addr) (m r : Nat) (H' : Hp) : Prop := Same H H' ∧ ∃ es, NetsAt H H' d kss.length es (netN kss m r) ∧ Cov kss m r es ∧ es.length ≤ 50 * m + r
theorem NetsIn.same {kss : List (List Int)} {H H1 H2 : Hp} {d : Addr} {m r : Nat} (h : NetsIn kss H d m r H1) (s : Same H1 H2) : NetsIn kss H d m r H2 := by
  obtain ⟨s1, es, a, b, c⟩ := h
  exact ⟨s1.trans s, es, a.same s, b, c⟩
theorem NetsIn.row {kss : List (List Int)} {H H1 : Hp} {d : Addr} {m : Nat} (h : NetsIn kss H d m m H1) (hm : m ≤ 50) : NetsIn kss H d (m + 1) 0 H1 := by
  obtain ⟨s1, es, a, b, c⟩ := h
  rw [netN_row] at a
  exact ⟨s1, es, a, fun i j hi hj z => b i j hi hj (seen_row.mpr z), by omega⟩
/-- two rows of one net are put: the tie of m and r stands there -/
theorem NetsAt.tie {kss : List (List Int)} {H H1 : Hp} {d : Addr} {es : List (Int × Addr)} {m r : Nat} {e : Int × Addr} (a : NetsAt H H1 d kss.length es (fun k i => if k = e.1 ∧ i = m then netN kss m r k m ||| 2 ^ r else if k = e.1 ∧ i = r then netN kss m r k r ||| 2 ^ m else netN kss m r k i)) (h : r < m) (hm : m < kss.length) (he : e.1 = tieN kss m r) :
    NetsAt H H1 d kss.length es (netN kss m (r + 1)) := by
  rw [netN_next kss h hm, ← he]
  exact a
def spNets : Sp := fun vs H Q _ => ∃ (c : Addr) (rs : List Addr) (kss : List (List Int)) (k : Int), vs = [.ref c] ∧ Tab H c rs kss ∧ Fine k kss ∧ kss.length ≤ 40 ∧
  ∀ (d : Addr) (H' : Hp), NetsIn kss H d kss.length 0 H' → Q (.ref d) H'
section
variable {P : Program} {w : World} {K : PySem.W.Frag} {mg : Str → Option Value} {base : Heap}
abbrev sNets : Stmt := topS 19
abbrev nNets : List Str := ["company", "nets", "other", "row", "one", "kind", "net"]
theorem scNets : FnScope nNets ["company"] (defScope sNets) := ⟨rfl, rfl, rfl, by decide +kernel, rfl, by decide +kernel, by decide +kernel⟩
theorem ok_nets {f : Addr} {fd : FuncData} (F : Fun K "nets_of" "nets_of" sNets f fd) (T : Bi mg) : FnOk P w K mg base CX0 1 f fd ["company"] spNets := by
  refine F.ok scNets (fun vs H Q E h => ?_) (fun cdv A outer s H vs Q E hr h => ?_)
  · obtain ⟨c, rs, kss, k, rfl, _⟩ := h
    rfl
  · obtain ⟨c, rs, kss, k, rfl, t, fine, n40, q⟩ := h
    refine ⟨_, (pss_cons (ps_set (i := 1) scNets.nd rfl (Or.inl rfl) pe_dnewK)
      (pss_cons (ps_for PassesOwn.never rfl (pi_enum (by rfl) T.enumerate (pa_cons (pv 0) pa_nil)) (pg_tup rfl (pgs_cons (pg_name (i := 2) scNets.nd rfl (Or.inl rfl)) (pgs_cons (pg_name (i := 3) scNets.nd rfl (Or.inl rfl)) pgs_nil)))
        (pss_one (ps_for PassesOwn.never rfl (pi_enum (by rfl) T.enumerate (pa_cons (pv 3) pa_nil)) (pg_tup rfl (pgs_cons (pg_name (i := 4) scNets.nd rfl (Or.inl rfl)) (pgs_cons (pg_name (i := 5) scNets.nd rfl (Or.inl rfl)) pgs_nil)))
          (pss_cons (ps_if (pt_cmp (pc_dnotin (hu_of hr) (pv 5) (pv 1)))
            (pss_one (ps_dput (hu_of hr) (pv 1) (pv 5) (pe_op op_rep (pe_lst (pa_cons pe_int pa_nil)) (pe_callB call_len_seq (by rfl) T.len PySem.boot_len (pa_cons (pv 0) pa_nil))) rfl)) pss_nil)
          (pss_cons (ps_set (i := 6) scNets.nd rfl (Or.inl rfl) (pe_dget (hu_of hr) (pv 1) (pv 5) (fun _ _ => rfl)))
          (pss_cons (ps_augS (pv 6) (pv 4) get_list (pe_op opN_shl pe_int (pv 2)) iopN_or set_list)
          (pss_one (ps_augS (pv 6) (pv 2) get_list (pe_op opN_shl pe_int (pv 4)) iopN_or set_list))))))))
      (pss_one (ps_ret (pv 1))))), ?_⟩
    obtain ⟨n, hn⟩ : ∃ n, kss.length = n := ⟨_, rfl⟩
    have lr : (rs.map V.ref).length = n := by rw [List.length_map, t.len, hn]
    refine fun d hd => ?_
    have N0 : NetsIn kss H d 0 0 (upd H d (.dK [])) := ⟨same_new hd, [], ⟨upd_same, by simp, hd, by simp, by simp, by simp⟩, fun i j _ _ z => by unfold Seen at z; omega, Nat.zero_le _⟩
    refine ⟨_, rfl, c, _, rfl, SqL.of (N0.1 _ _ t.top), ?_⟩
    refine for_it (walk_enum (K := K) (a := c) (xs := rs.map V.ref)) (fun m σ H' => ∃ a b e1 e2 e3 : Option V, σ = [some (.ref c), some (.ref d), a, b, e1, e2, e3] ∧ NetsIn kss H d m 0 H')
      ⟨none, none, none, none, none, rfl, N0⟩ (fun m σ H' _ z => by
        obtain ⟨_, _, _, _, _, _, s'⟩ := z
        exact SqL.of (s'.1 _ _ t.top)) ?_ ?_
    · rintro m y σ H' H'' hm ⟨a, b, e1, e2, e3, rfl, N⟩ ⟨A2, x1, x2, rfl, nA, rfl, g1, g2⟩
      rw [lr] at hm
      have g1' : x1 = .int (m : Nat) := (Option.some.inj g1).symm
      subst g1'
      obtain ⟨r, ks, c1, c2, c3⟩ := t.at (i := m) (by omega)
      have g2' : x2 = .ref r := by
        have e3 : (rs.map V.ref)[m]? = some x2 := g2
        rw [List.getElem?_map, c1] at e3
        exact (Option.some.inj e3).symm
      subst g2'
      obtain ⟨lk, bk⟩ := fine _ _ c2
      have N2 := N.same (same_new (o := .tup [.int (m : Nat), .ref r]) nA)
      refine ⟨A2, [.int (m : Nat), .ref r], rfl, SqT.of upd_same, rfl, _, _, rfl, _, _, rfl, rfl, ?_⟩
      refine ⟨_, rfl, r, _, rfl, SqL.of (N2.1 _ _ c3), ?_⟩
      have lks : (ks.map V.int).length = m := by rw [List.length_map]; exact lk
      refine for_it (walk_enum (K := K) (a := r) (xs := ks.map V.int)) (fun j σ H' => ∃ e1 e2 e3 : Option V, σ = [some (.ref c), some (.ref d), some (.int (m : Nat)), some (.ref r), e1, e2, e3] ∧ NetsIn kss H d m j H')
        ⟨e1, e2, e3, rfl, N2⟩ (fun j σ H' _ z => by
          obtain ⟨_, _, _, _, s'⟩ := z
          exact SqL.of (s'.1 _ _ c3)) ?_ ?_
      · rintro j y σ H3 H4 hj ⟨e1, e2, e3, rfl, N3⟩ ⟨A3, z1, z2, rfl, nA3, rfl, g1, g2⟩
        rw [lks] at hj
        have g1' : z1 = .int (j : Nat) := (Option.some.inj g1).symm
        subst g1'
        have jl : j < ks.length := by omega
        have ek : tieN kss m j = ks[j] := by
          have eA : kss.getD (max m j) [] = ks := by rw [List.getD_eq_getElem?_getD, Nat.max_eq_left (by omega), c2]; rfl
          unfold tieN
          rw [eA, Nat.min_eq_right (by omega), List.getD_eq_getElem?_getD, List.getElem?_eq_getElem jl]
          rfl
        have g2' : z2 = .int (tieN kss m j) := by
          have e3 : (ks.map V.int)[j]? = some z2 := g2
          rw [List.getElem?_map, List.getElem?_eq_getElem jl] at e3
          rw [ek]
          exact (Option.some.inj e3).symm
        subst g2'
        have N4 := N3.same (same_new (o := .tup [.int (j : Nat), .int (tieN kss m j)]) nA3)
        refine ⟨A3, [.int (j : Nat), .int (tieN kss m j)], rfl, SqT.of upd_same, rfl, _, _, rfl, _, _, rfl, rfl, ?_⟩
        generalize upd H3 A3 (.tup [.int (j : Nat), .int (tieN kss m j)]) = H4 at N4
        clear N3 g1 g2 nA3
        generalize ek2 : tieN kss m j = kd at *
        -- a kind that comes for the first time
        refine seq_by (fun σ' H5 => σ' = [some (.ref c), some (.ref d), some (.int (m : Nat)), some (.ref r), some (.int (j : Nat)), some (.int kd), e3] ∧ Same H H5 ∧ ∃ es a, NetsAt H H5 d kss.length es (netN kss m j) ∧ Cov kss m j es ∧ es.length ≤ 50 * m + (j + 1) ∧ (kd, a) ∈ es) (fun nx hnx => ?_) ?_
        · obtain ⟨s4, es, M4, cov, le⟩ := N4
          refine ⟨_, rfl, _, rfl, d, valV _ (Sum.inl kd), rfl, DGet.k (k := Sum.inl kd) M4.top, _, rfl, ?_⟩
          by_cases ck : kd ∈ es.map (·.1)
          · obtain ⟨a, ha⟩ := mem_fst.mp ck
            rw [val_of M4.nk ha]
            refine iteF ?_
            exact hnx _ _ ⟨rfl, s4, es, a, M4, cov, by omega, ha⟩
          · rw [val_no ck]
            refine iteT ?_
            refine ⟨one_le, fun l hl => ?_⟩
            obtain ⟨H5, e5, s5, f5⟩ := gen H4 hl (.lst [.int 0])
            rw [e5]
            clear e5
            refine ⟨_, rfl, c, _, rfl, .inl (SqL.of ((s4.trans s5) _ _ t.top)), l, _, _, rfl, rfl, f5, by omega, by omega, ?_, fun p hp => ?_⟩
            · show 1 * ((rs.map V.ref).length : Int).toNat ≤ sizeLine
              rw [lr]
              exact Nat.le_of_lt (small1000 (by omega))
            have eq : (List.replicate ((rs.map V.ref).length : Int).toNat [V.int 0]).flatten = (List.range kss.length).map fun i => V.int ((netN kss m j kd i : Nat) : Int) := by
              rw [lr, Int.toNat_natCast, rep_zero, hn]
              exact List.map_congr_left fun i hi => by
                rw [netN_new (fun a b ha hb z e => ck (by rw [← e]; exact cov a b ha hb z)) (by rw [hn]; exact List.mem_range.mp hi)]
                rfl
            rw [eq]
            obtain ⟨H6, e6, s6, f6⟩ := gen H5 hp (.lst ((List.range kss.length).map fun i => V.int ((netN kss m j kd i : Nat) : Int)))
            rw [e6]
            clear e6
            have s46 := s5.trans s6
            have M6 := M4.same s46
            have pd : p ≠ d := fun z => by
              have := s5 _ _ M4.top
              rw [← z, hp] at this
              cases this
            have p0 : H p = none := s4.free (s5.free hp)
            refine ⟨_, rfl, _, rfl, d, _, rfl, DPut.k (k := Sum.inl kd) M6.top ?_, ?_⟩
            · rw [List.length_map, sizeLine_eq]
              omega
            rw [put_no ck]
            refine hnx _ _ ⟨rfl, fun b o e => ?_, es ++ [(kd, p)], p, ⟨?_, fun e he => ?_, hd, fun e he => ?_, ?_, ?_⟩, fun a b ha hb z => ?_, ?_, ?_⟩
            · rw [upd_ne (ne_of_none e hd)]
              exact s46 _ _ (s4 _ _ e)
            · rw [upd_same, List.map_append]
              rfl
            · rcases List.mem_append.mp he with he | he
              · rw [upd_ne (M6.ned he)]
                exact M6.row e he
              · rw [List.mem_singleton] at he
                subst he
                rw [upd_ne pd]
                exact f6
            · rcases List.mem_append.mp he with he | he
              · exact M4.new e he
              · rw [List.mem_singleton] at he
                subst he
                exact p0
            · rw [List.map_append, List.nodup_append]
              refine ⟨M4.nk, by simp, fun a ha b hb => ?_⟩
              rw [List.map_singleton, List.mem_singleton] at hb
              subst hb
              exact fun z => ck (by rw [← z]; exact ha)
            · rw [List.map_append, List.nodup_append]
              refine ⟨M4.na, by simp, fun a ha b hb => ?_⟩
              rw [List.map_singleton, List.mem_singleton] at hb
              subst hb
              rintro rfl
              obtain ⟨e, he, rfl⟩ := List.mem_map.mp ha
              have := s5 _ _ (M4.row e he)
              rw [hp] at this
              cases this
            · rw [List.map_append]
              exact List.mem_append_left _ (cov a b ha hb z)
            · rw [List.length_append]
              simp only [List.length_singleton]
              omega
            · simp
        · rintro σ5 H5 ⟨rfl, s5, es, a, M5, cov, le, hm5⟩
          refine ⟨_, rfl, _, rfl, d, .ref a, rfl, by
            have := DGet.k (k := Sum.inl kd) M5.top
            rw [val_of M5.nk hm5] at this
            exact this, ?_⟩
          have R5 := M5.row _ hm5
          have jn : j < kss.length := by omega
          have mn : m < kss.length := by omega
          have at1 : ∀ (g : Nat → Nat) (i : Nat), i < kss.length → atI ((List.range kss.length).map fun i => V.int ((g i : Nat) : Int)) ((i : Nat) : Int) = some (.int ((g i : Nat) : Int)) := fun g i h => atI_nat (by rw [List.getElem?_map, List.getElem?_range h]; rfl)
          have ix1 : ∀ (g : Nat → Nat) (i : Nat), i < kss.length → ixN ((List.range kss.length).map fun i => V.int ((g i : Nat) : Int)).length ((i : Nat) : Int) = some i := fun g i h => by
            rw [List.length_map, List.length_range]
            exact ixN_nat h
          refine ⟨_, rfl, _, rfl, a, _, _, _, rfl, rfl, SqL.of R5, at1 _ j jn, _, rfl, m, rfl, rfl, by omega, _, _, rfl, rfl, ?_⟩
          refine ⟨a, _, _, _, rfl, rfl, R5, ix1 _ j jn, ?_⟩
          have M6 := M5.set hm5 (p := j) (v := netN kss m j kd j ||| 2 ^ m) jn
          have R6 := M6.row _ hm5
          have s6 : Same H (upd H5 a (.lst (((List.range kss.length).map fun i => V.int ((netN kss m j kd i : Nat) : Int)).set j (.int ((netN kss m j kd j ||| 2 ^ m : Nat) : Int))))) := fun b o e => by
            rw [upd_ne (ne_of_none e (M5.new _ hm5))]
            exact s5 b o e
          generalize upd H5 a (.lst (((List.range kss.length).map fun i => V.int ((netN kss m j kd i : Nat) : Int)).set j (.int ((netN kss m j kd j ||| 2 ^ m : Nat) : Int)))) = H6 at M6 R6 s6
          dsimp only at R6
          refine ⟨_, rfl, _, rfl, a, _, _, _, rfl, rfl, SqL.of R6, at1 _ m mn, _, rfl, j, rfl, rfl, by omega, _, _, rfl, rfl, ?_⟩
          refine ⟨a, _, _, _, rfl, rfl, R6, ix1 _ m mn, ?_⟩
          have mj : ¬ m = j := by omega
          have M7 := M6.set hm5 (p := m) (v := netN kss m j kd m ||| 2 ^ j) mn
          have ev : (if kd = kd ∧ m = j then netN kss m j kd j ||| 2 ^ m else netN kss m j kd m) = netN kss m j kd m := if_neg (fun z => mj z.2)
          rw [ev]
          refine ⟨_, _, _, rfl, fun b o e => ?_, es, NetsAt.tie (e := (kd, a)) (M7.congr fun p _ i _ => ?_) hj mn ek2.symm, fun i1 i2 h1 h2 z => ?_, le⟩
          · rw [upd_ne (ne_of_none e (M5.new _ hm5))]
            exact s6 b o e
          · dsimp only
            by_cases c1 : p.1 = kd ∧ i = m
            · obtain ⟨rfl, rfl⟩ := c1
              simp
            · rw [if_neg c1, if_neg c1]
              by_cases c2 : p.1 = kd ∧ i = j
              · obtain ⟨rfl, rfl⟩ := c2
                simp
              · rw [if_neg c2, if_neg c2]
          · rcases (seen_next hj).mp z with z | ⟨rfl, rfl⟩ | ⟨rfl, rfl⟩
            · exact cov i1 i2 h1 h2 z
            · rw [ek2]
              exact mem_fst.mpr ⟨a, hm5⟩
            · rw [tieN_comm, ek2]
              exact mem_fst.mpr ⟨a, hm5⟩
      · rintro σ H3 ⟨e1, e2, e3, rfl, N3⟩
        rw [lks] at N3
        exact ⟨_, _, _, _, _, rfl, N3.row (by omega)⟩
    · rintro σ H' ⟨a, b, e1, e2, e3, rfl, N⟩
      rw [lr] at N
      exact ⟨_, rfl, q d H' (by rw [hn]; exact N)⟩
end
end K07

namespace K07
open PySem PySem.Spec PyProof.Rows L2 GL
theorem natV_get {l : List Nat} {i : Nat} {x : V} (h : (natV l)[i]? = some x) : ∃ p, l[i]? = some p ∧ x = .int ((p : Nat) : Int) := by
  unfold natV at h
  rw [List.getElem?_map] at h
  cases e : l[i]? with
  | none =>
    rw [e] at h
    cases h
  | some p =>
    rw [e] at h
    exact ⟨p, rfl, (Option.some.inj h).symm⟩
def spBits : Sp := fun vs H Q _ => ∃ (o : Addr) (l : List Nat), vs = [.ref o] ∧ H o = some (.lst (natV l)) ∧ (∀ p ∈ l, p ≤ 1000) ∧ Q (.int ((bitsN l : Nat) : Int)) H
/-- the people of a list whose bits a number has -/
def spPeople : Sp := fun vs H Q _ => ∃ (b : Nat) (o : Addr) (l : List Nat), vs = [.int ((b : Nat) : Int), .ref o] ∧ b ≠ 0 ∧ H o = some (.lst (natV l)) ∧ l.Nodup ∧ l.length ≤ 1000 ∧ (∀ j, b.testBit j = true → j ∈ l) ∧
  ∀ p : Addr, H p = none → ∀ H', Same H H' → H' p = some (.lst (natV (l.filter fun j => b.testBit j))) → Q (.ref p) H'
theorem filter_one {l : List Nat} {j : Nat} (nd : l.Nodup) (h : j ∈ l) : l.filter (fun i => (2 ^ j).testBit i) = [j] := by
  induction l with
  | nil => simp at h
  | cons a l ih =>
    obtain ⟨n1, n2⟩ := List.nodup_cons.mp nd
    rw [List.filter_cons, Nat.testBit_two_pow]
    rcases List.mem_cons.mp h with rfl | h
    · rw [if_pos (by simp)]
      congr 1
      rw [List.filter_eq_nil_iff]
      intro i hi
      rw [Nat.testBit_two_pow]
      simp only [decide_eq_true_eq]
      exact fun z => n1 (by rw [z]; exact hi)
    · have : ¬ j = a := fun z => n1 (by rw [← z]; exact h)
      rw [if_neg (by simpa using this)]
      exact ih n2 h
section
variable {P : Program} {w : World} {K : PySem.W.Frag} {mg : Str → Option Value} {base : Heap}
abbrev sBits : Stmt := topS 20
abbrev nBits : List Str := ["people", "bits", "person"]
theorem scBits : FnScope nBits ["people"] (defScope sBits) := ⟨rfl, rfl, rfl, by decide +kernel, rfl, by decide +kernel, by decide +kernel⟩
theorem ok_bits {f : Addr} {fd : FuncData} (F : Fun K "bits_of" "bits_of" sBits f fd) (T : Bi mg) : FnOk P w K mg base CX0 1 f fd ["people"] spBits := by
  refine F.ok scBits (fun vs H Q E h => ?_) (fun cdv A outer s H vs Q E hr h => ?_)
  · obtain ⟨o, l, rfl, _⟩ := h
    rfl
  · obtain ⟨o, l, rfl, ho, low, q⟩ := h
    refine ⟨_, (pss_cons (ps_set (i := 1) scBits.nd rfl (Or.inl rfl) pe_int)
      (pss_cons (ps_for PassesOwn.never rfl (pi_list (pv 0)) (pg_name (i := 2) scBits.nd rfl (Or.inl rfl))
        (pss_one (ps_aug (i := 1) scBits.nd rfl (Or.inl rfl) (pe_op opN_shl pe_int (pv 2)) iopN_or)))
      (pss_one (ps_ret (pv 1))))), ?_⟩
    refine ⟨_, rfl, o, rfl, ⟨_, SqL.of ho⟩, ?_⟩
    refine for_list (K := K) (a := o) (xs := natV l) (fun i σ H' => H' = H ∧ ∃ e : Option V, σ = [some (.ref o), some (.int ((bitsN (l.take i) : Nat) : Int)), e]) ⟨rfl, none, rfl⟩ (fun i σ H' _ z => by rw [z.1]; exact SqL.of ho) ?_ ?_
    · rintro i x σ H' hx ⟨rfl, e, rfl⟩
      obtain ⟨p, hp, rfl⟩ := natV_get hx
      refine ⟨_, rfl, _, rfl, p, rfl, rfl, low p (List.mem_of_getElem? hp), _, _, rfl, rfl, rfl, some (.int ((p : Nat) : Int)), ?_⟩
      unfold bitsN
      rw [List.take_add_one, hp, List.foldl_append]
      rfl
    · rintro σ H' ⟨rfl, e, rfl⟩
      refine ⟨_, rfl, ?_⟩
      unfold natV
      rw [List.length_map, List.take_length]
      exact q
abbrev sPeople : Stmt := topS 21
abbrev nPeople : List Str := ["bits", "people", "person"]
theorem scPeople : FnScope nPeople ["bits", "people"] (defScope sPeople) := ⟨rfl, rfl, rfl, by decide +kernel, rfl, by decide +kernel, by decide +kernel⟩
theorem ok_people {f : Addr} {fd : FuncData} (F : Fun K "people_of" "people_of" sPeople f fd) (T : Bi mg) : FnOk P w K mg base CX0 1 f fd ["bits", "people"] spPeople := by
  refine F.ok scPeople (fun vs H Q E h => ?_) (fun cdv A outer s H vs Q E hr h => ?_)
  · obtain ⟨b, o, l, rfl, _⟩ := h
    rfl
  · obtain ⟨b, o, l, rfl, b0, ho, nd, l1000, sub, q⟩ := h
    refine ⟨_, (pss_cons (ps_if (pt_cmpR op_eq (pe_op opN_and (pv 0) (pe_op op_sub (pv 0) pe_int)) pe_int (nomark _))
        (pss_one (ps_ret (pe_lst (pa_cons (pe_topV (pe_op op_sub (pe_bits (pv 0)) pe_int)) pa_nil)))) pss_nil)
      (pss_one (ps_ret (pe_lc (own := [("person", 2)]) (g := (gName 2)) (tt := (tTruth K (tOp (rN fun a b => a &&& b) (tOp (rN fun a p => a >>> p) (tVar 0) (tVar 2)) (tC (.int 1))))) (te := (tVar 2)) rfl scPeople.nd (pi_list (pv 1))
            (blkOk_by (N := nPeople) (sc := (defScope sPeople)) (by decide +kernel)) (fun _ _ _ _ _ => (pg_name (i := 2) scPeople.nd rfl (Or.inl rfl))) (fun _ _ _ _ _ => by exact (pts_one (pt_truth (pe_op opN_and (pe_op opN_shr (pv 0) (pv 2)) pe_int) (by intro _; rfl))))
            (fun _ _ _ _ _ => by exact (pv 2)))))), ?_⟩
    refine ⟨_, rfl, _, rfl, _, _, rfl, rfl, b, b - 1, rfl, congrArg V.int (by omega), rfl, _, rfl, ?_⟩
    show if decide (V.int ((b &&& (b - 1) : Nat) : Int) = V.int 0) = true then _ else _
    by_cases c : b &&& (b - 1) = 0
    · rw [c]
      refine iteT ?_
      have e := one_bit b0 c
      refine ⟨_, rfl, b, rfl, b0, one_le, fun p hp => ?_⟩
      refine q p hp _ (same_new hp) ?_
      rw [upd_same]
      have : l.filter (fun j => b.testBit j) = [b.log2] := by
        rw [e, Nat.log2_two_pow]
        exact filter_one nd (sub _ (log_set b0))
      rw [this]
      rfl
    · rw [decide_eq_false (fun z => c (by have := V.int.inj z; omega))]
      refine iteF ?_
      refine ⟨_, rfl, o, rfl, ⟨_, SqL.of ho⟩, fun D hD => ?_⟩
      refine lc_list (K := K) (a := o) (xs := natV l) (fun i H' => Same H H' ∧ H' D = some (.lst (natV ((l.take i).filter fun j => b.testBit j)))) ⟨same_new hD, upd_same⟩ (fun i H' _ z => SqL.of (z.1 _ _ ho)) ?_ ?_
      · rintro i x H' hx ⟨s1, h1⟩
        obtain ⟨p, hp, rfl⟩ := natV_get hx
        refine ⟨rfl, ?_⟩
        refine ⟨_, rfl, _, rfl, b, p, rfl, rfl, _, 1, rfl, rfl, _, rfl, ?_⟩
        have tk : (l.take (i + 1)).filter (fun j => b.testBit j) = (l.take i).filter (fun j => b.testBit j) ++ (if b.testBit p then [p] else []) := by
          rw [List.take_add_one, hp, List.filter_append]
          congr 1
          show [p].filter _ = _
          cases h : b.testBit p <;> simp [h]
        show if ((((b >>> p) &&& 1 : Nat) : Int) != 0) = true then _ else _
        rw [shr_bit]
        cases h : b.testBit p with
        | false =>
          refine iteF ⟨s1, ?_⟩
          rw [tk, h, if_neg (by decide), List.append_nil]
          exact h1
        | true =>
          refine iteT ⟨_, rfl, _, h1, ?_, fun c o' e => ?_, ?_⟩
          · have := List.length_filter_le (fun j => b.testBit j) (l.take i)
            rw [List.length_take] at this
            unfold natV
            rw [List.length_map, sizeLine_eq]
            omega
          · rw [upd_ne (ne_of_none e hD)]
            exact s1 _ _ e
          · rw [upd_same, tk, h]
            unfold natV
            rw [List.map_append]
            rfl
      · rintro H' ⟨s1, h1⟩
        have ll : (natV l).length = l.length := List.length_map _
        rw [ll, List.take_length] at h1
        exact q D hD H' s1 h1
end
end K07

namespace K07
open PySem PySem.Spec PyProof.Rows L2 GL
/-- who has unlike bits in the nets of two persons, as far as the nets have been gone through -/
def Apart (kss : List (List Int)) (es : List (Int × Addr)) (a b i q : Nat) : Prop := ∃ e ∈ es.take i, (netN kss kss.length 0 e.1 a).testBit q ≠ (netN kss kss.length 0 e.1 b).testBit q
theorem apart_tells {kss : List (List Int)} {es : List (Int × Addr)} {a b T : Nat} (ha : a < kss.length) (hb : b < kss.length) (cov : Cov kss kss.length 0 es) (hT : ∀ q, T.testBit q = true ↔ Apart kss es a b es.length q) : Tells (tieN kss) kss.length a b T where
  of := fun q h => by
    obtain ⟨e, _, ne⟩ := (hT q).mp h
    rw [netN_full kss _ ha, netN_full kss _ hb] at ne
    by_cases hq : q < kss.length
    · refine ⟨hq, ?_⟩
      by_cases c1 : q = a
      · exact .inr (.inl c1)
      by_cases c2 : q = b
      · exact .inr (.inr c2)
      refine .inl fun z => ne ?_
      have c1' : ¬ a = q := fun z => c1 z.symm
      have c2' : ¬ b = q := fun z => c2 z.symm
      rw [tieN_comm kss a q, tieN_comm kss b q, z]
      simp [c1', c2']
    · simp [hq] at ne
  to := fun q hq c1 c2 ne => by
    rw [hT]
    have c1' : ¬ a = q := fun z => c1 z.symm
    have c2' : ¬ b = q := fun z => c2 z.symm
    obtain ⟨x, hx⟩ := mem_fst.mp (cov a q ha hq (by unfold Seen; omega))
    refine ⟨_, by rw [List.take_length]; exact hx, ?_⟩
    rw [netN_full kss _ ha, netN_full kss _ hb]
    have : ¬ tieN kss b q = tieN kss a q := fun z => ne (by rw [tieN_comm kss q a, tieN_comm kss q b, z])
    simp [hq, c1', c2', this]
def spGrown : Sp := fun vs H Q _ => ∃ (d : Addr) (held : Nat) (kss : List (List Int)) (H0 : Hp), vs = [.ref d, .int ((held : Nat) : Int), .int ((2 ^ kss.length - 1 : Nat) : Int)] ∧ NetsIn kss H0 d kss.length 0 H ∧ kss.length ≤ 40 ∧ held ≠ 0 ∧ (∀ j, held.testBit j = true → j < kss.length) ∧
  ∀ r : Nat, (∀ j, r.testBit j = true ↔ LH (tieN kss) kss.length (fun x => held.testBit x = true) j) → Q (.int ((r : Nat) : Int)) H
theorem log_le {x n : Nat} (h : ∀ j, x.testBit j = true → j < n) (h0 : x ≠ 0) : x.log2 < n := h _ (log_set h0)
section
variable {P : Program} {w : World} {K : PySem.W.Frag} {mg : Str → Option Value} {base : Heap}
abbrev sGrown : Stmt := topS 22
abbrev nGrown : List Str := ["nets", "held", "whole", "last", "waiting", "person", "tellers", "net"]
theorem scGrown : FnScope nGrown ["nets", "held", "whole"] (defScope sGrown) := ⟨rfl, rfl, rfl, by decide +kernel, rfl, by decide +kernel, by decide +kernel⟩
theorem ok_grown {f : Addr} {fd : FuncData} (F : Fun K "grown" "grown" sGrown f fd) (T : Bi mg) : FnOk P w K mg base CX0 1 f fd ["nets", "held", "whole"] spGrown := by
  refine F.ok scGrown (fun vs H Q E h => ?_) (fun cdv A outer s H vs Q E hr h => ?_)
  · obtain ⟨d, held, kss, H0, rfl, _⟩ := h
    rfl
  · obtain ⟨d, held, kss, H0, rfl, N, n40, h0, low, q⟩ := h
    refine ⟨_, (pss_cons (ps_set (i := 3) scGrown.nd rfl (Or.inl rfl) (pe_topV (pe_op op_sub (pe_bits (pv 1)) pe_int)))
      (pss_cons (ps_set (i := 4) scGrown.nd rfl (Or.inl rfl) (pe_op opN_xor (pv 1) (pe_op opN_shl pe_int (pv 3))))
      (pss_cons (ps_while PassesOwn.never (PW.pt (pw_and (pt_truth (pv 4) (by intro _; rfl)) (pw_and1 (pt_cmpR op_ne (pv 1) (pv 2) (nomark _)))))
        (pss_cons (ps_set (i := 5) scGrown.nd rfl (Or.inl rfl) (pe_topV (pe_op op_sub (pe_bits (pv 4)) pe_int)))
        (pss_cons (ps_aug (i := 4) scGrown.nd rfl (Or.inl rfl) (pe_op opN_shl pe_int (pv 5)) iopN_xor)
        (pss_cons (ps_set (i := 6) scGrown.nd rfl (Or.inl rfl) pe_int)
        (pss_cons (ps_lock (ps_for PassesOwn.never rfl (pi_values (pv 0)) (pg_name (i := 7) scGrown.nd rfl (Or.inl rfl))
          (pss_one (ps_aug (i := 6) scGrown.nd rfl (Or.inl rfl) (pe_op opN_xor (pe_ix ix_list (pv 7) (pv 3) (fun _ _ => rfl)) (pe_ix ix_list (pv 7) (pv 5) (fun _ _ => rfl))) iopN_or))))
        (pss_cons (ps_aug (i := 4) scGrown.nd rfl (Or.inl rfl) (pe_op opN_less (pv 6) (pe_un un_inv (pv 1))) iopN_or)
        (pss_one (ps_aug (i := 1) scGrown.nd rfl (Or.inl rfl) (pv 6) iopN_or))))))))
      (pss_one (ps_ret (pv 1)))))), ?_⟩
    obtain ⟨s0, es, M, cov, le⟩ := N
    have hl := log_le low h0
    refine ⟨_, rfl, held, rfl, h0, ?_⟩
    refine ⟨_, rfl, _, rfl, _, rfl, rfl, by omega, _, _, rfl, rfl, ?_⟩
    refine while_by (fun σ H' => H' = H ∧ ∃ (hd wt : Nat) (e1 e2 e3 : Option V), σ = [some (.ref d), some (.int ((hd : Nat) : Int)), some (.int ((2 ^ kss.length - 1 : Nat) : Int)), some (.int ((held.log2 : Nat) : Int)), some (.int ((wt : Nat) : Int)), e1, e2, e3] ∧ Gw (tieN kss) kss.length (fun x => held.testBit x = true) held.log2 hd wt)
      (fun σ _ => gwm kss.length (natAt σ 1) (natAt σ 4)) ⟨rfl, held, _, none, none, none, rfl, Gw.start h0 (fun _ => Iff.rfl) low⟩ ?_ ?_
    · rintro σ H' ⟨rfl, hd, wt, e1, e2, e3, rfl, g⟩
      have fin : ∀ (h : wt = 0 ∨ hd = 2 ^ kss.length - 1), Q (.int ((hd : Nat) : Int)) H' := fun h => q hd fun j => g.done h j
      refine ⟨_, rfl, _, rfl, ?_⟩
      by_cases w0 : wt = 0
      · have : (((wt : Nat) : Int) != 0) = false := by simp [w0]
        rw [this]
        exact iteF ⟨_, rfl, fin (.inl w0)⟩
      have : (((wt : Nat) : Int) != 0) = true := by simpa using w0
      rw [this]
      refine iteT ⟨_, rfl, _, rfl, rfl, _, rfl, ?_⟩
      by_cases hw : hd = 2 ^ kss.length - 1
      · have : (!decide (V.int ((hd : Nat) : Int) = V.int ((2 ^ kss.length - 1 : Nat) : Int))) = false := by rw [hw]; simp
        rw [this]
        exact iteF ⟨_, rfl, fin (.inr hw)⟩
      have : (!decide (V.int ((hd : Nat) : Int) = V.int ((2 ^ kss.length - 1 : Nat) : Int))) = true := by
        rw [decide_eq_false (fun z => hw (by have := V.int.inj z; omega))]
        rfl
      rw [this]
      refine iteT ?_
      have pn : wt.log2 < kss.length := (g.inn _ (g.sub _ (log_set w0))).low
      refine ⟨_, rfl, wt, rfl, w0, ?_⟩
      refine ⟨_, rfl, _, rfl, wt.log2, rfl, rfl, by omega, _, _, rfl, rfl, ?_⟩
      refine ⟨d, _, M.top, trivial, fun od => ?_⟩
      refine ⟨_, rfl, d, od, _, rfl, upd_same, ?_⟩
      refine for_it walk_values (fun i σ H2 => H2 = upd H' d (.frz od (.dK (es.map fun e => ((Sum.inl e.1 : Key), V.ref e.2)))) ∧ ∃ (T : Nat) (e3 : Option V), σ = [some (.ref d), some (.int ((hd : Nat) : Int)), some (.int ((2 ^ kss.length - 1 : Nat) : Int)), some (.int ((held.log2 : Nat) : Int)), some (.int ((wt ^^^ 2 ^ wt.log2 : Nat) : Int)), some (.int ((wt.log2 : Nat) : Int)), some (.int ((T : Nat) : Int)), e3] ∧ ∀ q, T.testBit q = true ↔ Apart kss es held.log2 wt.log2 i q)
        ⟨rfl, 0, e3, rfl, fun q => by rw [Nat.zero_testBit]; exact ⟨fun z => (by cases z), fun ⟨e, h, _⟩ => (by simp at h)⟩⟩ (fun i σ H2 _ z => by rw [z.1]; exact upd_same) ?_ ?_
      · rintro i x σ H2 H3 hi ⟨rfl, T, e3, rfl, hT⟩ ⟨rfl, k, hk⟩
        rw [List.getElem?_map] at hk
        cases ee : es[i]? with
        | none =>
          rw [ee] at hk
          cases hk
        | some e =>
          rw [ee] at hk
          cases hk
          have em := List.mem_of_getElem? ee
          have R := M.row e em
          have ned := M.ned em
          have at1 : ∀ i, i < kss.length → atI ((List.range kss.length).map fun i => V.int ((netN kss kss.length 0 e.1 i : Nat) : Int)) ((i : Nat) : Int) = some (.int ((netN kss kss.length 0 e.1 i : Nat) : Int)) := fun i h => atI_nat (by rw [List.getElem?_map, List.getElem?_range h]; rfl)
          have R' : SqL K (upd H' d (.frz od (.dK (es.map fun e => ((Sum.inl e.1 : Key), V.ref e.2))))) e.2 ((List.range kss.length).map fun i => V.int ((netN kss kss.length 0 e.1 i : Nat) : Int)) := SqL.of (by rw [upd_ne ned]; exact R)
          refine ⟨_, rfl, _, rfl, _, rfl, e.2, _, _, _, rfl, rfl, R', at1 _ hl, _, rfl, _, rfl, e.2, _, _, _, rfl, rfl, R', at1 _ pn, _, _, rfl, rfl, _, _, rfl, rfl, ?_⟩
          refine ⟨rfl, _, _, rfl, fun q => ?_⟩
          rw [Nat.testBit_or, Nat.testBit_xor, Bool.or_eq_true, hT]
          unfold Apart
          rw [List.take_add_one, ee]
          constructor
          · rintro (⟨e', h1, h2⟩ | h)
            · exact ⟨e', List.mem_append_left _ h1, h2⟩
            · exact ⟨e, by simp, by simpa using h⟩
          · rintro ⟨e', h1, h2⟩
            rcases List.mem_append.mp h1 with h1 | h1
            · exact .inl ⟨e', h1, h2⟩
            · have : e' = e := by simpa using h1
              subst this
              exact .inr (by simpa using h2)
      · rintro σ H2 ⟨rfl, T, e3, rfl, hT⟩
        rw [List.length_map] at hT
        refine ⟨upd_same, ?_⟩
        rw [upd_back M.top]
        have tells := apart_tells hl pn cov hT
        refine ⟨_, rfl, _, rfl, _, rfl, _, rfl, T, hd, rfl, rfl, fun r hr => ?_⟩
        refine ⟨_, _, rfl, rfl, ?_⟩
        refine ⟨_, rfl, _, rfl, _, _, rfl, rfl, ?_⟩
        have hW : ∀ j, ((wt ^^^ 2 ^ wt.log2) ||| r).testBit j = ((wt ^^^ 2 ^ wt.log2).testBit j || (T.testBit j && !hd.testBit j)) := fun j => by rw [Nat.testBit_or, hr]
        exact ⟨⟨rfl, _, _, _, _, _, rfl, g.step w0 tells hW⟩, g.falls w0 hW⟩
    · rintro σ H' Q1 Q2 h ⟨v, e, k, hk, q⟩
      refine ⟨v, e, k, hk, ?_⟩
      cases k with
      | false => exact h _ _ q
      | true =>
        obtain ⟨v1, e1, v2, e2, fl, k2, ek, q⟩ := q
        exact ⟨v1, e1, v2, e2, fl, k2, ek, h _ _ q⟩
end
end K07

namespace K07
open PySem PySem.Spec PyProof.Rows L2 GL
open Classical in
/-- the least house that holds a lot -/
noncomputable def leastK (kss : List (List Int)) (l : List Nat) : List Nat := (List.range kss.length).filter fun j => decide (LH (tieN kss) kss.length (fun x => x ∈ l) j)
theorem mem_least {kss : List (List Int)} {l : List Nat} {j : Nat} : j ∈ leastK kss l ↔ LH (tieN kss) kss.length (fun x => x ∈ l) j := by
  unfold leastK
  rw [List.mem_filter, List.mem_range]
  exact ⟨fun h => @of_decide_eq_true _ (_) h.2, fun h => ⟨h.low, @decide_eq_true _ (_) h⟩⟩
theorem least_up (kss : List (List Int)) (l : List Nat) : (leastK kss l).Pairwise (· < ·) := List.pairwise_lt_range.sublist List.filter_sublist
/-- ascending lists with the same people are the same -/
theorem up_ext {l m : List Nat} (hl : l.Pairwise (· < ·)) (hm : m.Pairwise (· < ·)) (h : ∀ j, j ∈ l ↔ j ∈ m) : l = m := by
  induction l generalizing m with
  | nil =>
    cases m with
    | nil => rfl
    | cons a m => exact absurd ((h a).mpr (List.mem_cons_self ..)) (by simp)
  | cons a l ih =>
    cases m with
    | nil => exact absurd ((h a).mp (List.mem_cons_self ..)) (by simp)
    | cons b m =>
      obtain ⟨l1, l2⟩ := List.pairwise_cons.mp hl
      obtain ⟨m1, m2⟩ := List.pairwise_cons.mp hm
      have ab : a = b := by
        rcases List.mem_cons.mp ((h a).mp (List.mem_cons_self ..)) with e | e
        · exact e
        · rcases List.mem_cons.mp ((h b).mpr (List.mem_cons_self ..)) with e2 | e2
          · exact e2.symm
          · have := m1 a e
            have := l1 b e2
            omega
      subst ab
      congr 1
      refine ih l2 m2 fun j => ?_
      constructor
      · intro hj
        rcases List.mem_cons.mp ((h j).mp (List.mem_cons_of_mem _ hj)) with e | e
        · have := l1 j hj
          omega
        · exact e
      · intro hj
        rcases List.mem_cons.mp ((h j).mpr (List.mem_cons_of_mem _ hj)) with e | e
        · have := m1 j hj
          omega
        · exact e
theorem bits_range (n : Nat) : bitsN (List.range n) = 2 ^ n - 1 := Nat.eq_of_testBit_eq fun j => by
  rw [bitsN_bit, full_bit]
  exact decide_eq_decide.mpr List.mem_range
def spLeast : Sp := fun vs H Q _ => ∃ (k : Int) (c o : Addr) (rs : List Addr) (kss : List (List Int)) (l : List Nat), vs = [.int k, .ref c, .ref o] ∧ 2 ≤ k ∧ k ≤ 9 ∧ Tab H c rs kss ∧ Fine k kss ∧ 1 ≤ kss.length ∧ kss.length ≤ 40 ∧ H o = some (.lst (natV l)) ∧ Lot kss.length l ∧ ∀ (p : Addr) (H' : Hp), Same H H' → H p = none → H' p = some (.lst (natV (leastK kss l))) → Q (.ref p) H'
section
variable {P : Program} {w : World} {K : PySem.W.Frag} {mg : Str → Option Value} {base : Heap}
abbrev sLeast : Stmt := topS 23
abbrev nLeast : List Str := ["kinds", "company", "lot", "people"]
theorem scLeast : FnScope nLeast ["kinds", "company", "lot"] (defScope sLeast) := ⟨rfl, rfl, rfl, by decide +kernel, rfl, by decide +kernel, by decide +kernel⟩
theorem ok_least {f : Addr} {fd : FuncData} (F : Fun K "least_house" "least_house" sLeast f fd) (T : Bi mg) (Ucheckcompany : Use P w K mg base "check_company" ["kinds", "company"] (spCheckC K) 5) (Uchecklot : Use P w K mg base "check_lot" ["company", "lot"] spCheckL 4) (Unetsof : Use P w K mg base "nets_of" ["company"] spNets 1) (Ubitsof : Use P w K mg base "bits_of" ["people"] spBits 1) (Upeopleof : Use P w K mg base "people_of" ["bits", "people"] spPeople 1) (Ugrown : Use P w K mg base "grown" ["nets", "held", "whole"] spGrown 1) : FnOk P w K mg base CX0 6 f fd ["kinds", "company", "lot"] spLeast := by
  refine F.ok scLeast (fun vs H Q E h => ?_) (fun cdv A outer s H vs Q E hr h => ?_)
  · obtain ⟨k, c, o, rs, kss, l, rfl, _⟩ := h
    rfl
  · obtain ⟨k, c, o, rs, kss, l, rfl, k2, k9, t, fine, one, most, ho, lot, q⟩ := h
    refine ⟨_, (pss_cons (ps_expr (pe_use Ucheckcompany hr (by rfl) (pa_cons (pv 0) (pa_cons (pv 1) pa_nil))))
      (pss_cons (ps_expr (pe_use Uchecklot (hr.mono (by decide)) (by rfl) (pa_cons (pv 1) (pa_cons (pv 2) pa_nil))))
      (pss_cons (ps_set (i := 3) scLeast.nd rfl (Or.inl rfl) (pe_listRg rfl (by rfl) T.list (prg_1 (by rfl) T.range (pe_callB call_len_seq (by rfl) T.len PySem.boot_len (pa_cons (pv 1) pa_nil)))))
      (pss_one (ps_ret (pe_use Upeopleof (hr.mono (by decide)) (by rfl) (pa_cons (pe_use Ugrown (hr.mono (by decide)) (by rfl) (pa_cons (pe_use Unetsof (hr.mono (by decide)) (by rfl) (pa_cons (pv 1) pa_nil)) (pa_cons (pe_use Ubitsof (hr.mono (by decide)) (by rfl) (pa_cons (pv 2) pa_nil)) (pa_cons (pe_use Ubitsof (hr.mono (by decide)) (by rfl) (pa_cons (pv 3) pa_nil)) pa_nil)))) (pa_cons (pv 3) pa_nil)))))))), ?_⟩
    obtain ⟨n, hn⟩ : ∃ n, kss.length = n := ⟨_, rfl⟩
    have lr : (rs.map V.ref).length = kss.length := by rw [List.length_map, t.len]
    refine ⟨_, rfl, _, rfl, k, _, _, rfl, k2, k9, t.dt, Fine.comp fine one most, fun H1 s1 => ?_⟩
    refine ⟨_, rfl, _, rfl, c, o, _, l, rfl, s1 _ _ t.top, by omega, s1 _ _ ho, by rw [lr]; exact lot, fun H2 s2 => ?_⟩
    have s12 := s1.trans s2
    have t2 := t.same s12
    refine ⟨_, rfl, c, _, rfl, .inl (SqL.of t2.top), _, rfl, RgOk.of_le (by omega) (by omega) (by omega) (by omega), fun pl hpl => ?_⟩
    rw [lr, rg_nat]
    obtain ⟨H3, e3, s3, f3⟩ := gen H2 hpl (.lst (natV (List.range kss.length)))
    rw [e3]
    clear e3
    have s13 := s12.trans s3
    refine ⟨_, rfl, c, rs, kss, k, rfl, t.same s13, fine, most, fun d H4 N => ?_⟩
    refine ⟨_, rfl, o, l, rfl, N.1 _ _ (s13 _ _ ho), fun p hp => by have := lot.low p hp; omega, ?_⟩
    refine ⟨_, rfl, pl, _, rfl, N.1 _ _ f3, fun p hp => by have := List.mem_range.mp hp; omega, ?_⟩
    rw [bits_range]
    have b0 : bitsN l ≠ 0 := fun z => by
      obtain ⟨x, hx⟩ := List.exists_mem_of_ne_nil _ lot.some
      have := bitsN_bit l x
      rw [z, Nat.zero_testBit, decide_eq_true hx] at this
      cases this
    have low : ∀ j, (bitsN l).testBit j = true → j < kss.length := fun j h => by
      rw [bitsN_bit] at h
      exact lot.low j (of_decide_eq_true h)
    refine ⟨d, bitsN l, kss, H3, rfl, N, most, b0, low, fun r hr => ?_⟩
    have hr' : ∀ j, r.testBit j = true ↔ LH (tieN kss) kss.length (fun x => x ∈ l) j := fun j => by
      rw [hr j]
      have : (fun x => (bitsN l).testBit x = true) = fun x => x ∈ l := funext fun x => propext (by rw [bitsN_bit, decide_eq_true_eq])
      rw [this]
    have r0 : r ≠ 0 := fun z => by
      obtain ⟨x, hx⟩ := List.exists_mem_of_ne_nil _ lot.some
      have := (hr' x).mpr (LH.base hx (lot.low x hx))
      rw [z, Nat.zero_testBit] at this
      cases this
    refine ⟨_, rfl, r, pl, List.range kss.length, rfl, r0, N.1 _ _ f3, List.nodup_range, by rw [List.length_range]; omega, fun j h => List.mem_range.mpr ((hr' j).mp h).low, fun p hp H5 s5 h5 => ?_⟩
    have s15 := s13.trans (N.1.trans s5)
    refine q p H5 s15 ((s13.trans N.1).free hp) ?_
    rw [h5]
    congr 3
    unfold leastK
    refine List.filter_congr fun j hj => ?_
    rw [Bool.eq_iff_iff, hr' j]
    exact ⟨fun h => @decide_eq_true _ (_) h, fun h => @of_decide_eq_true _ (_) h⟩
end
end K07

namespace K07
open PySem PySem.Spec PyProof.Rows L2 GL
-- gone _law_couples
-- gone _law_alike
-- gone _law_parting
/-- the couples of n whose first one is below m, in order -/
def cplTo (n : Nat) : Nat → List (Nat × Nat)
  | 0 => []
  | m + 1 => cplTo n m ++ (List.range (n - (m + 1))).map fun j => (m, m + 1 + j)
theorem cpl_mem (n : Nat) : ∀ (m : Nat) (a b : Nat), (a, b) ∈ cplTo n m ↔ a < m ∧ a < b ∧ b < n
  | 0, a, b => by
    show (a, b) ∈ [] ↔ _
    simp
  | m + 1, a, b => by
    show (a, b) ∈ cplTo n m ++ (List.range (n - (m + 1))).map (fun j => (m, m + 1 + j)) ↔ _
    rw [List.mem_append, cpl_mem n m, List.mem_map]
    constructor
    · rintro (h | ⟨j, hj, e⟩)
      · omega
      · cases e
        have := List.mem_range.mp hj
        omega
    · intro h
      by_cases c : a < m
      · exact .inl (by omega)
      · refine .inr ⟨b - (m + 1), List.mem_range.mpr (by omega), ?_⟩
        have h1 : m = a := by omega
        have h2 : m + 1 + (b - (m + 1)) = b := by omega
        rw [h2, h1]
theorem cpl_len (n : Nat) : ∀ m, (cplTo n m).length ≤ m * n
  | 0 => Nat.zero_le _
  | m + 1 => by
    show (cplTo n m ++ (List.range (n - (m + 1))).map fun j => (m, m + 1 + j)).length ≤ _
    rw [List.length_append, List.length_map, List.length_range, Nat.succ_mul]
    have := cpl_len n m
    omega
/-- a list of couples, each a tuple at its place, new since H0 -/
structure Cpls (H0 H : Hp) (a : Addr) (ts : List (Addr × Nat × Nat)) : Prop where
  top : H a = some (.lst (ts.map fun t => V.ref t.1))
  row : ∀ t ∈ ts, H t.1 = some (.tup [.int (t.2.1 : Nat), .int (t.2.2 : Nat)])
  new : ∀ t ∈ ts, H0 t.1 = none
/-- two stand alike -/
def alikeB (kss : List (List Int)) (a b : Nat) : Bool := (List.range kss.length).all fun m => m == a || m == b || decide (tieN kss m a = tieN kss m b)
theorem inV_two (p a b : Nat) : inV (.int (p : Nat)) [.int (a : Nat), .int (b : Nat)] = (p == a || p == b) := by
  have := inV_nat [a, b] p
  unfold natV at this
  rw [List.map_cons, List.map_cons, List.map_nil] at this
  rw [this]
  by_cases h1 : p = a
  · subst h1
    simp
  · by_cases h2 : p = b
    · subst h2
      simp
    · simp [h1, h2]
theorem same_any (kss : List (List Int)) (p : Nat) (l : List Nat) (h : l ≠ []) : (∀ x ∈ l.map (tieN kss p), ∀ y ∈ l.map (tieN kss p), x = y) ↔ (l.any fun m => decide (tieN kss p m ≠ tieN kss p (l.headD 0))) = false := by
  cases l with
  | nil => exact absurd rfl h
  | cons a l =>
    rw [List.any_eq_false]
    constructor
    · intro g m hm
      have := g (tieN kss p m) (List.mem_map_of_mem hm) (tieN kss p a) (List.mem_map_of_mem (List.mem_cons_self ..))
      show ¬ decide (tieN kss p m ≠ tieN kss p a) = true
      rw [this]
      simp
    · intro g x hx y hy
      obtain ⟨m, hm, rfl⟩ := List.mem_map.mp hx
      obtain ⟨o, ho, rfl⟩ := List.mem_map.mp hy
      have e : ∀ z ∈ a :: l, tieN kss p z = tieN kss p a := fun z hz => by
        have := g z hz
        have t2 : ¬ decide (tieN kss p z ≠ tieN kss p a) = true := this
        simp at t2
        exact t2
      rw [e m hm, e o ho]
section
variable {P : Program} {w : World} {K : PySem.W.Frag} {mg : Str → Option Value} {base : Heap}
abbrev nCouples : List Str := ["_law_size", "_law_found", "_law_one", "_law_other"]
def spCouples : Sp := fun vs H Q _ => ∃ n : Nat, vs = [.int n] ∧ n ≤ 100 ∧ ∀ (p : Addr) (ts : List (Addr × Nat × Nat)) (H' : Hp), Same H H' → H p = none → Cpls H H' p ts → ts.map (·.2) = cplTo n n → Q (.ref p) H'
abbrev nAlike : List Str := ["_law_company_here", "_law_one", "_law_other", "_law_mate"]
def spAlike : Sp := fun vs H Q _ => ∃ (c : Addr) (rs : List Addr) (kss : List (List Int)) (k : Int) (a b : Nat), vs = [.ref c, .int a, .int b] ∧ Tab H c rs kss ∧ Fine k kss ∧ kss.length ≤ 100 ∧ a < kss.length ∧ b < kss.length ∧ ∀ H', Same H H' → Q (.bl (alikeB kss a b)) H'
abbrev nPart2 : List Str := ["_law_company_here", "_law_lot", "_law_person", "_law_mate"]
def spPart2 : Sp := fun vs H Q _ => ∃ (c o : Addr) (rs : List Addr) (kss : List (List Int)) (k : Int) (l : List Nat), vs = [.ref c, .ref o] ∧ Tab H c rs kss ∧ Fine k kss ∧ kss.length ≤ 100 ∧ H o = some (.lst (natV l)) ∧ Lot kss.length l ∧ ∀ H', Same H H' → Q (optV (partingOf kss l)) H'
end
end K07

namespace K07
open PySem PySem.Spec PyProof.Rows L2 GL
/-! ### what is true of houses -/
def IsH (kss : List (List Int)) (l : List Nat) : Prop := ∀ p, p < kss.length → p ∉ l → ∀ m ∈ l, ∀ o ∈ l, tieN kss p m = tieN kss p o
theorem house_iff {kss : List (List Int)} {l : List Nat} (h : l ≠ []) : houseB kss l = true ↔ IsH kss l := by
  unfold houseB
  rw [Option.isNone_iff_eq_none]
  unfold partingOf
  rw [List.find?_eq_none]
  constructor
  · intro g p hp np m hm o ho
    have := g p (List.mem_range.mpr hp)
    unfold partsB at this
    rw [decide_eq_true np, Bool.true_and, Bool.not_eq_true, ← same_any kss p l h] at this
    exact this _ (List.mem_map_of_mem hm) _ (List.mem_map_of_mem ho)
  · intro g p hp
    have hp' := List.mem_range.mp hp
    unfold partsB
    by_cases c : p ∈ l
    · rw [decide_eq_false (fun z => z c)]
      simp
    · rw [decide_eq_true c, Bool.true_and, Bool.not_eq_true, ← same_any kss p l h]
      intro x hx y hy
      obtain ⟨m, hm, rfl⟩ := List.mem_map.mp hx
      obtain ⟨o, ho, rfl⟩ := List.mem_map.mp hy
      exact g p hp' c m hm o ho
/-- who is in both, who is in the first one alone -/
def meet (l m : List Nat) : List Nat := l.filter fun p => decide (p ∈ m)
def less (l m : List Nat) : List Nat := l.filter fun p => !decide (p ∈ m)
theorem mem_meet {l m : List Nat} {p : Nat} : p ∈ meet l m ↔ p ∈ l ∧ p ∈ m := by
  unfold meet
  rw [List.mem_filter, decide_eq_true_eq]
theorem mem_less {l m : List Nat} {p : Nat} : p ∈ less l m ↔ p ∈ l ∧ p ∉ m := by
  unfold less
  rw [List.mem_filter, Bool.not_eq_true', decide_eq_false_iff_not]
theorem Lot.sub {n : Nat} {l : List Nat} (h : Lot n l) (f : Nat → Bool) (g : l.filter f ≠ []) : Lot n (l.filter f) := ⟨g, h.up.sublist List.filter_sublist, fun p hp => h.low p (List.mem_filter.mp hp).1⟩
theorem IsH.meet {kss : List (List Int)} {l m : List Nat} (h1 : IsH kss l) (h2 : IsH kss m) : IsH kss (meet l m) := by
  intro p hp np a ha b hb
  have ha' := mem_meet.mp ha
  have hb' := mem_meet.mp hb
  by_cases c : p ∈ l
  · have c2 : p ∉ m := fun z => np (mem_meet.mpr ⟨c, z⟩)
    exact h2 p hp c2 a ha'.2 b hb'.2
  · exact h1 p hp c a ha'.1 b hb'.1
theorem IsH.join {kss : List (List Int)} {l m u : List Nat} (h1 : IsH kss l) (h2 : IsH kss m) (hu : ∀ p, p ∈ u ↔ p ∈ m ∨ p ∈ l) {z : Nat} (z1 : z ∈ l) (z2 : z ∈ m) : IsH kss u := by
  intro p hp np a ha b hb
  have n1 : p ∉ l := fun z => np ((hu p).mpr (.inr z))
  have n2 : p ∉ m := fun z => np ((hu p).mpr (.inl z))
  have e : ∀ x ∈ u, tieN kss p x = tieN kss p z := fun x hx => by
    rcases (hu x).mp hx with hx | hx
    · exact h2 p hp n2 x hx z z2
    · exact h1 p hp n1 x hx z z1
  rw [e a ha, e b hb]
theorem IsH.less {kss : List (List Int)} {l m : List Nat} (h1 : IsH kss l) (h2 : IsH kss m) (bl : ∀ p ∈ l, p < kss.length) (bm : ∀ p ∈ m, p < kss.length) {z : Nat} (z1 : z ∈ m) (z2 : z ∉ l) : IsH kss (less l m) := by
  intro p hp np a ha b hb
  obtain ⟨a1, a2⟩ := mem_less.mp ha
  obtain ⟨b1, b2⟩ := mem_less.mp hb
  by_cases c : p ∈ l
  · have c2 : p ∈ m := by
      by_cases c3 : p ∈ m
      · exact c3
      · exact (np (mem_less.mpr ⟨c, c3⟩)).elim
    have e : ∀ x, x ∈ l → x ∉ m → tieN kss p x = tieN kss z x := fun x x1 x2 => by
      rw [tieN_comm kss p x, tieN_comm kss z x]
      exact h2 x (bl x x1) x2 p c2 z z1
    rw [e a a1 a2, e b b1 b2]
    exact h1 z (bm z z1) z2 a a1 b b1
  · exact h1 p hp c a a1 b b1
theorem nodup_up {l : List Nat} (h : l.Pairwise (· < ·)) : l.Nodup := h.imp fun x => Nat.ne_of_lt x
theorem nodup_le : ∀ {m l : List Nat}, m.Nodup → (∀ z ∈ m, z ∈ l) → m.length ≤ l.length
  | [], _, _, _ => Nat.zero_le _
  | a :: m, l, h, s => by
    obtain ⟨h1, h2⟩ := List.nodup_cons.mp h
    have hl := s a (List.mem_cons_self ..)
    have := nodup_le (l := l.erase a) h2 fun z hz => (List.mem_erase_of_ne fun e => h1 (by rw [← e]; exact hz)).mpr (s z (List.mem_cons_of_mem _ hz))
    rw [List.length_erase_of_mem hl] at this
    have := List.length_pos_of_mem hl
    rw [List.length_cons]
    omega
/-- somebody of m isn't in l, when fewer than all of m are in both -/
theorem out_of {l m : List Nat} (hl : l.Nodup) (hm : m.Nodup) (h : (meet l m).length < m.length) : ∃ z ∈ m, z ∉ l := by
  apply Classical.byContradiction
  intro c
  have all : ∀ z ∈ m, z ∈ l := fun z hz => by
    apply Classical.byContradiction
    intro g
    exact c ⟨z, hz, g⟩
  have := nodup_le (l := meet l m) hm fun z hz => mem_meet.mpr ⟨all z hz, hz⟩
  omega
theorem nums_map (l : List Nat) : (nums l).map Int.toNat = l := by
  unfold nums
  rw [List.map_map]
  exact List.map_id'' (fun x => Int.toNat_natCast x) l
theorem sorted_back {u : List Nat} {ns : List Int} (pm : ns.Perm (nums u)) (so : ns.Pairwise (· ≤ ·)) (nd : u.Nodup) : ∃ v : List Nat, ns = nums v ∧ v.Perm u ∧ v.Pairwise (· < ·) := by
  have pos : ∀ z ∈ ns, 0 ≤ z := fun z hz => by
    obtain ⟨j, _, rfl⟩ := List.mem_map.mp (pm.mem_iff.mp hz)
    omega
  have p2 : (ns.map Int.toNat).Perm u := by
    have := pm.map Int.toNat
    rwa [nums_map] at this
  refine ⟨ns.map Int.toNat, ?_, p2, ?_⟩
  · unfold nums
    rw [List.map_map]
    conv => lhs; rw [← List.map_id ns]
    exact List.map_congr_left fun z hz => by
      have := pos z hz
      show z = ((z.toNat : Nat) : Int)
      omega
  · have nd2 : (ns.map Int.toNat).Nodup := p2.nodup_iff.mpr nd
    have le : (ns.map Int.toNat).Pairwise (· ≤ ·) := List.pairwise_map.mpr (so.imp fun h => by omega)
    exact (List.pairwise_and_iff.mpr ⟨le, nd2⟩).imp fun ⟨a, b⟩ => by omega
theorem house_alike {kss : List (List Int)} {a b : Nat} (ha : a < kss.length) (hb : b < kss.length) : houseB kss [a, b] = alikeB kss a b := by
  rw [Bool.eq_iff_iff, house_iff (by simp)]
  unfold alikeB
  rw [List.all_eq_true]
  constructor
  · intro h m hm
    by_cases c : m = a ∨ m = b
    · rcases c with rfl | rfl <;> simp
    · have np : m ∉ [a, b] := by simpa using c
      have := h m (List.mem_range.mp hm) np a (by simp) b (by simp)
      simp [this]
  · intro h p hp np m hm o ho
    have np' : ¬ (p = a ∨ p = b) := by simpa using np
    have := h p (List.mem_range.mpr hp)
    have e : tieN kss p a = tieN kss p b := by
      have h1 : (p == a) = false := by simp; exact fun z => np' (.inl z)
      have h2 : (p == b) = false := by simp; exact fun z => np' (.inr z)
      rw [h1, h2] at this
      simpa using this
    have f : ∀ x ∈ [a, b], tieN kss p x = tieN kss p a := fun x hx => by
      rcases (by simpa using hx : x = a ∨ x = b) with rfl | rfl
      · rfl
      · exact e.symm
    rw [f m hm, f o ho]
theorem house_all (kss : List (List Int)) (h : 1 ≤ kss.length) : Lot kss.length (List.range kss.length) ∧ houseB kss (List.range kss.length) = true := by
  have ne : List.range kss.length ≠ [] := fun z => by
    have := congrArg List.length z
    rw [List.length_range] at this
    have e0 : ([] : List Nat).length = 0 := rfl
    omega
  exact ⟨⟨ne, List.pairwise_lt_range, fun p hp => List.mem_range.mp hp⟩, (house_iff ne).mpr fun p hp np => absurd (List.mem_range.mpr hp) np⟩
end K07

namespace K07
open PySem PySem.Spec PyProof.Rows L2 GL
section
variable {X : Cx}
/-- xs == [] -/
def rEqNil (K : PySem.W.Frag) : R2 := fun x y H Q => ∃ a b xs, x = .ref a ∧ y = .ref b ∧ SqL K H a xs ∧ SqL K H b [] ∧ Q (.bl xs.isEmpty) H
theorem op_eqNil (hu : X.A.units + 64 < cLine) : OpR X (compareOp .Eq) (rEqNil X.K) := by
  intro pins s σ H x y v u Q I rx ry h
  obtain ⟨a, b, xs, rfl, rfl, ha, hb, q⟩ := h
  cases rx
  cases ry
  obtain ⟨is, ra, pa, _⟩ := I.list ha
  obtain ⟨js, rb, pb, _⟩ := I.list hb
  cases rb
  cases xs with
  | nil =>
    cases ra
    exact (SeqAt.RcAt.lists (e := fun _ => true) pa.isList pb.isList rfl (by omega) (fun j h1 => absurd h1 (by simp))) _ _ _ _ ⟨.bl _, H, I, rfl, q⟩
  | cons z zs =>
    cases ra with
    | cons r1 r2 => exact (SeqAt.RcAt.lists_lengths pa.isList pb.isList (by simp) (by omega)) _ _ _ _ ⟨.bl _, H, I, rfl, q⟩
end
theorem isEmpty_filter {f : Nat → Bool} : ∀ l : List Nat, (l.filter f).isEmpty = !l.any f
  | [] => rfl
  | a :: l => by
    rw [List.filter_cons, List.any_cons]
    cases h : f a with
    | true => rfl
    | false =>
      rw [if_neg (by decide), isEmpty_filter l]
      rfl
theorem filter_next {f : Nat → Bool} {l : List Nat} {i p : Nat} (h : l[i]? = some p) : (l.take (i + 1)).filter f = (l.take i).filter f ++ (if f p then [p] else []) := by
  rw [List.take_add_one, h, List.filter_append]
  congr 1
  show [p].filter f = _
  cases c : f p <;> simp [c]
theorem natV_app (l m : List Nat) : natV (l ++ m) = natV l ++ natV m := by
  unfold natV
  rw [List.map_append]
theorem range_next {f : Nat → Bool} (i : Nat) : (List.range (i + 1)).filter f = (List.range i).filter f ++ (if f i then [i] else []) := by
  rw [List.range_succ, List.filter_append]
  congr 1
  cases c : f i <;> simp [c]
theorem natV_len (l : List Nat) : (natV l).length = l.length := List.length_map _
theorem cut_first (m : List Nat) : cutV (natV m) none (some 1) = natV (m.take 1) := by
  cases m with
  | nil => rfl
  | cons a t =>
    unfold cutV natV
    simp [HT.sIx]
theorem partsB_iff {kss : List (List Int)} {l : List Nat} (h : l ≠ []) {p : Nat} : partsB kss l p = true ↔ p ∉ l ∧ ∃ a ∈ l, ∃ b ∈ l, tieN kss p a ≠ tieN kss p b := by
  unfold partsB
  rw [Bool.and_eq_true, decide_eq_true_eq]
  refine and_congr_right fun _ => ?_
  rw [← Bool.not_eq_false]
  rw [← same_any kss p l h]
  constructor
  · intro g
    refine Classical.byContradiction fun ng => g fun x hx y hy => ?_
    obtain ⟨a, ha, rfl⟩ := List.mem_map.mp hx
    obtain ⟨b, hb, rfl⟩ := List.mem_map.mp hy
    exact Classical.byContradiction fun ne => ng ⟨a, ha, b, hb, ne⟩
  · rintro ⟨a, ha, b, hb, ne⟩ g
    exact ne (g _ (List.mem_map_of_mem ha) _ (List.mem_map_of_mem hb))
/-- a lot that is the least house -/
theorem least_of {kss : List (List Int)} {l m : List Nat} (lot : Lot kss.length m) (sub : ∀ x ∈ l, x ∈ m) (inn : ∀ x ∈ m, LH (tieN kss) kss.length (fun x => x ∈ l) x) (hs : IsH kss m) : m = leastK kss l :=
  up_ext lot.up (least_up kss l) fun j => by
    rw [mem_least]
    exact ⟨inn j, fun h => LH.least (S := fun x => x ∈ m) lot.low (fun p hp np a b ha hb => hs p hp np a ha b hb) sub h⟩
def spHouse : Sp := fun vs H Q _ => ∃ (c o : Addr) (rs : List Addr) (kss : List (List Int)) (k : Int) (l : List Nat), vs = [.ref c, .ref o] ∧ Tab H c rs kss ∧ Fine k kss ∧ kss.length ≤ 100 ∧ H o = some (.lst (natV l)) ∧ Lot kss.length l ∧ ∀ H', Same H H' → Q (.bl (houseB kss l)) H'
def spGrownL : Sp := fun vs H Q _ => ∃ (c o : Addr) (rs : List Addr) (kss : List (List Int)) (k : Int) (l : List Nat), vs = [.ref c, .ref o] ∧ Tab H c rs kss ∧ Fine k kss ∧ kss.length ≤ 40 ∧ H o = some (.lst (natV l)) ∧ Lot kss.length l ∧ ∀ (p : Addr) (H' : Hp), Same H H' → H p = none → H' p = some (.lst (natV (leastK kss l))) → Q (.ref p) H'
section
variable {P : Program} {w : World} {K : PySem.W.Frag} {mg : Str → Option Value} {base : Heap}
abbrev sHouse : Stmt := topS 35
abbrev nHouse : List Str := ["_law_company_here", "_law_lot", "_law_person", "_law_mate"]
theorem scHouse : FnScope nHouse ["_law_company_here", "_law_lot"] (defScope sHouse) := ⟨rfl, rfl, rfl, by decide +kernel, rfl, by decide +kernel, by decide +kernel⟩
theorem ok_house {f : Addr} {fd : FuncData} (F : Fun K "_law_house" "_law_house" sHouse f fd) (T : Bi mg) (ULtie : Use P w K mg base "_law_tie" ["_law_company_here", "_law_one", "_law_other"] spTie 1) : FnOk P w K mg base CX0 2 f fd ["_law_company_here", "_law_lot"] spHouse := by
  refine F.ok scHouse (fun vs H Q E h => ?_) (fun cdv A outer s H vs Q E hr h => ?_)
  · obtain ⟨c, o, rs, kss, k, l, rfl, _⟩ := h
    rfl
  · obtain ⟨c, o, rs, kss, k, l, rfl, t, fine, n100, ho, lot, q⟩ := h
    refine ⟨_, (pss_cons (ps_for PassesOwn.never rfl (pi_range1 (by rfl) T.range (pa_cons (pe_callB call_len_seq (by rfl) T.len PySem.boot_len (pa_cons (pv 0) pa_nil)) pa_nil)) (pg_name (i := 2) scHouse.nd rfl (Or.inr rfl))
        (pss_one (ps_if (pt_cmpR op_notIn_seq (pv 2) (pv 1) (by rfl))
          (pss_one (ps_if (pt_cmpR (op_neNil hr.units) (pe_lc (own := [("_law_mate", 3)]) (g := (gName 3)) (tt := (tTest (tOp rNe (tCall spTie [] E0 (tCons (tVar 0) (tCons (tVar 2) (tCons (tVar 3) tNil)))) (tCall spTie [] E0 (tCons (tVar 0) (tCons (tVar 2) (tCons (tOp (rIxL K) (tVar 1) (tC (.int 0))) tNil))))))) (te := (tVar 3)) rfl scHouse.nd (pi_list (pv 1))
            (blkOk_by (N := nHouse) (sc := (defScope sHouse)) (by decide +kernel)) (fun _ _ _ _ _ => (pg_name (i := 3) scHouse.nd rfl (Or.inl rfl))) (fun _ _ _ _ _ => by exact (pts_one (pt_cmpR op_ne (pe_use ULtie hr (by rfl) (pa_cons (pv 0) (pa_cons (pv 2) (pa_cons (pv 3) pa_nil)))) (pe_use ULtie hr (by rfl) (pa_cons (pv 0) (pa_cons (pv 2) (pa_cons (pe_ix ix_list (pv 1) pe_int (fun _ _ => rfl)) pa_nil)))) (nomark _))))
            (fun _ _ _ _ _ => by exact (pv 3))) (pe_lst pa_nil) (nomark _))
            (pss_one (ps_ret pe_bl)) pss_nil)) pss_nil)))
      (pss_one (ps_ret pe_bl))), ?_⟩
    have lr : (rs.map V.ref).length = kss.length := by rw [List.length_map, t.len]
    obtain ⟨l1, l2⟩ := lot.len
    refine ⟨_, rfl, c, _, rfl, .inl (SqL.of t.top), _, rfl, by omega, by omega, ?_⟩
    rw [lr]
    refine for_range (lo := 0) (n := (kss.length : Int).toNat) (fun i σ H' => ∃ m : Option V, σ = [some (.ref c), some (.ref o), m, none] ∧ Same H H' ∧ ∀ j, j < i → partsB kss l j = false)
      ⟨none, rfl, Same.refl _, fun j hj => absurd hj (Nat.not_lt_zero j)⟩ ?_ ?_
    · rintro i σ H' hi ⟨m, rfl, s1, no⟩
      have il : i < kss.length := by omega
      have i0 : (0 + (i : Int)) = (i : Int) := Int.zero_add _
      have next : ∀ H', Same H H' → partsB kss l i = false → ∃ m : Option V, [some (.ref c), some (.ref o), some (.int (i : Int)), none] = [some (.ref c), some (.ref o), m, none] ∧ Same H H' ∧ ∀ j, j < i + 1 → partsB kss l j = false := fun H' s' z =>
        ⟨_, rfl, s', fun p hp => by
          by_cases c : p = i
          · subst c
            exact z
          · exact no p (by omega)⟩
      refine ⟨_, rfl, _, rfl, o, _, rfl, .inl (SqL.of (s1 _ _ ho)), rfl, flat_nat l, _, rfl, ?_⟩
      rw [i0]
      show ite ((!inV (.int (i : Nat)) (natV l)) = true) _ _
      rw [inV_nat]
      by_cases c1 : i ∈ l
      · rw [decide_eq_true c1]
        refine iteF ?_
        exact next _ s1 (by unfold partsB; rw [decide_eq_false (fun z => z c1)]; rfl)
      · rw [decide_eq_false c1]
        obtain ⟨x0, lt, el⟩ := List.exists_cons_of_ne_nil lot.some
        have h0 : l.headD 0 = x0 := by rw [el]; rfl
        refine iteT ⟨_, rfl, o, rfl, ⟨_, SqL.of (s1 _ _ ho)⟩, fun D hD => ?_⟩
        refine lc_list (K := K) (a := o) (xs := natV l) (fun j H5 => Same H' H5 ∧ H5 D = some (.lst (natV ((l.take j).filter fun m => decide (tieN kss i m ≠ tieN kss i (l.headD 0)))))) ⟨same_new hD, upd_same⟩ (fun j H5 _ z => SqL.of (z.1 _ _ (s1 _ _ ho))) ?_ ?_
        · rintro j y H5 hj ⟨s5, h5⟩
          obtain ⟨x, e, rfl⟩ := natV_get hj
          have jl := (List.getElem?_eq_some_iff.mp e).1
          have xl := lot.low x (List.mem_of_getElem? e)
          have xi : i ≠ x := fun z => c1 (by rw [z]; exact List.mem_of_getElem? e)
          have x0m : x0 ∈ l := by rw [el]; exact List.mem_cons_self ..
          have x0l := lot.low x0 x0m
          have x0i : i ≠ x0 := fun z => c1 (by rw [z]; exact x0m)
          have t5 := (t.same s1).same s5
          have at0 : atI (natV l) 0 = some (.int ((x0 : Nat) : Int)) := atI_nat (j := 0) (by rw [el]; rfl)
          refine ⟨rfl, ?_⟩
          refine ⟨_, rfl, _, rfl, _, rfl, c, rs, kss, k, i, x, rfl, t5, fine, il, xl, xi, ?_⟩
          refine ⟨_, rfl, _, rfl, _, rfl, o, _, _, _, rfl, rfl, SqL.of (s5 _ _ (s1 _ _ ho)), at0, c, rs, kss, k, i, x0, rfl, t5, fine, il, x0l, x0i, ?_⟩
          refine ⟨rfl, _, rfl, ?_⟩
          have ev : (!decide (V.int (tieN kss i x) = V.int (tieN kss i x0))) = decide (tieN kss i x ≠ tieN kss i (l.headD 0)) := by
            rw [h0]
            by_cases z : tieN kss i x = tieN kss i x0
            · simp [z]
            · simp [z]
          rw [ev]
          have nx := filter_next (f := fun m => decide (tieN kss i m ≠ tieN kss i (l.headD 0))) e
          cases cc : decide (tieN kss i x ≠ tieN kss i (l.headD 0)) with
          | false =>
            refine iteF ⟨s5, ?_⟩
            rw [nx, cc, if_neg (by decide), List.append_nil]
            exact h5
          | true =>
            refine iteT ⟨_, rfl, _, h5, ?_, fun b o' e' => ?_, ?_⟩
            · have := List.length_filter_le (fun m => decide (tieN kss i m ≠ tieN kss i (l.headD 0))) (l.take j)
              rw [List.length_take] at this
              rw [natV_len]
              exact small1000 (by omega)
            · rw [upd_ne (ne_of_none e' hD)]
              exact s5 b o' e'
            · rw [upd_same, nx, cc, if_pos rfl, natV_app]
              rfl
        · rintro H5 ⟨s5, h5⟩
          rw [natV_len, List.take_length] at h5
          have s15 := s1.trans s5
          refine ⟨Nat.zero_le _, fun b hb => ?_⟩
          obtain ⟨H6, e6, s6, f6⟩ := gen H5 hb (.lst [])
          rw [e6]
          clear e6
          refine ⟨D, b, _, rfl, rfl, SqL.of (s6 _ _ h5), SqL.of f6, _, rfl, ?_⟩
          have pe : (!(natV (l.filter fun m => decide (tieN kss i m ≠ tieN kss i (l.headD 0)))).isEmpty) = partsB kss l i := by
            have : (natV (l.filter fun m => decide (tieN kss i m ≠ tieN kss i (l.headD 0)))).isEmpty = (l.filter fun m => decide (tieN kss i m ≠ tieN kss i (l.headD 0))).isEmpty := by
              unfold natV
              rw [List.isEmpty_map]
            rw [this, isEmpty_filter, Bool.not_not]
            unfold partsB
            rw [decide_eq_true c1]
            rfl
          rw [pe]
          cases pb : partsB kss l i with
          | true =>
            have : houseB kss l = false := by
              unfold houseB
              rw [show partingOf kss l = some i from find_some il no pb]
              rfl
            refine iteT ?_
            rw [this] at q
            exact q _ (s15.trans s6)
          | false => exact iteF (next _ (s15.trans s6) pb)
    · rintro σ H1 ⟨m, rfl, s1, no⟩
      have : houseB kss l = true := by
        unfold houseB
        rw [show partingOf kss l = none from find_none fun p hp => no p (by omega)]
        rfl
      rw [this] at q
      exact q H1 s1
abbrev sGrownL : Stmt := topS 36
abbrev nGrownL : List Str := ["_law_company_here", "_law_lot", "_law_found", "_law_turn", "_law_more", "_law_person", "_law_mate"]
theorem scGrownL : FnScope nGrownL ["_law_company_here", "_law_lot"] (defScope sGrownL) := ⟨rfl, rfl, rfl, by decide +kernel, rfl, by decide +kernel, by decide +kernel⟩
theorem ok_grownL {f : Addr} {fd : FuncData} (F : Fun K "_law_grown" "_law_grown" sGrownL f fd) (T : Bi mg) (ULtie : Use P w K mg base "_law_tie" ["_law_company_here", "_law_one", "_law_other"] spTie 1) : FnOk P w K mg base CX0 2 f fd ["_law_company_here", "_law_lot"] spGrownL := by
  refine F.ok scGrownL (fun vs H Q E h => ?_) (fun cdv A outer s H vs Q E hr h => ?_)
  · obtain ⟨c, o, rs, kss, k, l, rfl, _⟩ := h
    rfl
  · obtain ⟨c, o, rs, kss, k, l, rfl, t, fine, n40, ho, lot, q⟩ := h
    refine ⟨_, (pss_cons (ps_set (i := 2) scGrownL.nd rfl (Or.inl rfl) (pe_callTy call_lstL (by rfl) T.list PyProof.Rows.boot_list (pa_cons (pv 1) pa_nil)))
      (pss_cons (ps_for PassesOwn.never rfl (pi_range1 (by rfl) T.range (pa_cons (pe_callB call_len_seq (by rfl) T.len PySem.boot_len (pa_cons (pv 0) pa_nil)) pa_nil)) (pg_name (i := 3) scGrownL.nd rfl (Or.inl rfl))
        (pss_cons (ps_set (i := 4) scGrownL.nd rfl (Or.inl rfl) (pe_lst pa_nil))
        (pss_cons (ps_for PassesOwn.never rfl (pi_range1 (by rfl) T.range (pa_cons (pe_callB call_len_seq (by rfl) T.len PySem.boot_len (pa_cons (pv 0) pa_nil)) pa_nil)) (pg_name (i := 5) scGrownL.nd rfl (Or.inr rfl))
          (pss_one (ps_if (PW.pt (pw_and (pt_cmpR op_notIn_seq (pv 5) (pv 2) (by rfl)) (pw_and1 (pt_cmpR op_gt (pe_lenSetV (by rfl) T.len (by rfl) T.set (pe_lc (own := [("_law_mate", 6)]) (g := (gName 6)) (tt := tYes) (te := (tCall spTie [] E0 (tCons (tVar 0) (tCons (tVar 5) (tCons (tVar 6) tNil))))) rfl scGrownL.nd (pi_list (pv 2))
            (blkOk_by (N := nGrownL) (sc := (defScope sGrownL)) (by decide +kernel)) (fun _ _ _ _ _ => (pg_name (i := 6) scGrownL.nd rfl (Or.inl rfl))) (fun _ _ _ _ _ => by exact pts_nil)
            (fun _ _ _ _ _ => by exact (pe_use ULtie hr (by rfl) (pa_cons (pv 0) (pa_cons (pv 5) (pa_cons (pv 6) pa_nil))))))) pe_int (nomark _)))))
            (pss_one (ps_expr (pe_bm PySem.F.plainAttrs_list PySem.F.slot_list_append PySem.F.type_list_append mt_append (pv 4) (pa_cons (pv 5) pa_nil)))) pss_nil)))
        (pss_cons (ps_if (pt_cmpR (op_eqNil hr.units) (pv 4) (pe_lst pa_nil) (nomark _))
          (pss_one ps_break) pss_nil)
        (pss_one (ps_set (i := 2) scGrownL.nd rfl (Or.inl rfl) (pe_callB cr_sortedI (by rfl) T.sorted (by decide +kernel) (pa_cons (pe_op op_cat (pv 2) (pe_slice sl_list (pv 4) po_none (po_some pe_int))) pa_nil))))))))
      (pss_one (ps_ret (pv 2))))), ?_⟩
    have lr : (rs.map V.ref).length = kss.length := by rw [List.length_map, t.len]
    obtain ⟨l1, l2⟩ := lot.len
    refine ⟨_, rfl, o, _, rfl, SqL.of ho, fun q0 hq0 => ?_⟩
    obtain ⟨J0, e0, s0, f0⟩ := gen H hq0 (.lst (natV l))
    rw [e0]
    clear e0
    refine ⟨_, rfl, c, _, rfl, .inl (SqL.of ((t.same s0).top)), _, rfl, by omega, by omega, ?_⟩
    rw [lr]
    refine for_range (lo := 0) (n := (kss.length : Int).toNat) (fun i σ H' => ∃ (m : List Nat) (qa : Addr) (e1 e2 e3 : Option V), σ = [some (.ref c), some (.ref o), some (.ref qa), e1, e2, e3, none] ∧ Same H H' ∧ H qa = none ∧ H' qa = some (.lst (natV m)) ∧ Lot kss.length m ∧ (∀ x ∈ l, x ∈ m) ∧ (∀ x ∈ m, LH (tieN kss) kss.length (fun x => x ∈ l) x) ∧ l.length + i ≤ m.length)
      ⟨l, q0, none, none, none, rfl, s0, hq0, f0, lot, fun x h => h, fun x h => LH.base h (lot.low x h), Nat.le_refl _⟩ ?_ ?_
    · rintro i σ H' hi ⟨m, qa, e1, e2, e3, rfl, s1, nqa, hqa, lm, sub, inn, le⟩
      obtain ⟨m1, m2⟩ := lm.len
      refine ⟨Nat.zero_le _, fun f hf => ?_⟩
      obtain ⟨H2, e4, s2, f2⟩ := gen H' hf (.lst [])
      rw [e4]
      clear e4
      have s12 := s1.trans s2
      refine ⟨_, rfl, c, _, rfl, .inl (SqL.of ((t.same s12).top)), _, rfl, by omega, by omega, ?_⟩
      rw [lr]
      have nf : H f = none := s1.free hf
      have fq : f ≠ qa := (ne_of_none hqa hf).symm
      refine for_range (lo := 0) (n := (kss.length : Int).toNat) (fun j σ H' => ∃ (e3 : Option V), σ = [some (.ref c), some (.ref o), some (.ref qa), some (.int (0 + (i : Int))), some (.ref f), e3, none] ∧ Same H H' ∧ H' qa = some (.lst (natV m)) ∧ H' f = some (.lst (natV ((List.range j).filter (partsB kss m)))))
        ⟨_, rfl, s12, s2 _ _ hqa, f2⟩ ?_ ?_
      · rintro j σ H3 hj ⟨e3, rfl, s3, h3, g3⟩
        have jl : j < kss.length := by omega
        have j0 : (0 + (j : Int)) = (j : Int) := Int.zero_add _
        rw [j0]
        refine ⟨_, rfl, _, rfl, qa, _, rfl, .inl (SqL.of h3), rfl, flat_nat m, _, rfl, ?_⟩
        show ite ((!inV (.int (j : Nat)) (natV m)) = true) _ _
        rw [inV_nat]
        by_cases c1 : j ∈ m
        · rw [decide_eq_true c1]
          refine iteF ?_
          refine ⟨_, rfl, s3, h3, ?_⟩
          have : partsB kss m j = false := by unfold partsB; rw [decide_eq_false (fun z => z c1)]; rfl
          rw [range_next, this, if_neg (by decide), List.append_nil]
          exact g3
        · rw [decide_eq_false c1]
          refine iteT ⟨_, rfl, qa, rfl, ⟨_, SqL.of h3⟩, fun D hD => ?_⟩
          refine lc_list (K := K) (a := qa) (xs := natV m) (fun a H5 => Same H3 H5 ∧ H5 D = some (.lst (((m.take a).map (tieN kss j)).map V.int))) ⟨same_new hD, upd_same⟩ (fun a H5 _ z => SqL.of (z.1 _ _ h3)) ?_ ?_
          · rintro a y H5 hy ⟨s5, h5⟩
            obtain ⟨x, e, rfl⟩ := natV_get hy
            have al := (List.getElem?_eq_some_iff.mp e).1
            have xl := lm.low x (List.mem_of_getElem? e)
            have xj : j ≠ x := fun z => c1 (by rw [z]; exact List.mem_of_getElem? e)
            refine ⟨rfl, yes_of ?_⟩
            refine ⟨_, rfl, _, rfl, _, rfl, c, rs, kss, k, j, x, rfl, (t.same s3).same s5, fine, jl, xl, xj, _, h5, ?_, ?_, ?_⟩
            · rw [List.length_map, List.length_map, List.length_take]
              exact small1000 (by omega)
            · intro b o' e'
              rw [upd_ne (ne_of_none e' hD)]
              exact s5 b o' e'
            · rw [upd_same, take_more (tieN kss j) e, List.map_append]
              rfl
          · rintro H5 ⟨s5, h5⟩
            rw [natV_len, List.take_length] at h5
            have s35 := s3.trans s5
            refine ⟨D, m.map (tieN kss j), rfl, SqL.of h5, by rw [List.length_map]; omega, fun n hn => ⟨_, _, rfl, rfl, _, rfl, ?_⟩⟩
            rw [same_any kss j m lm.some] at hn
            have pe : partsB kss m j = m.any fun a => decide (tieN kss j a ≠ tieN kss j (m.headD 0)) := by
              unfold partsB
              rw [decide_eq_true c1]
              rfl
            rw [← pe] at hn
            cases pb : partsB kss m j with
            | true =>
              have n1 : 1 < n := by
                rcases Nat.lt_or_ge 1 n with h | h
                · exact h
                · rw [hn.mp h] at pb
                  cases pb
              rw [decide_eq_true (by omega : (n : Int) > 1)]
              refine iteT ⟨_, rfl, .inl ⟨rfl, _, SqL.of (s5 _ _ g3)⟩, _, rfl, f, _, _, rfl, rfl, s5 _ _ g3, ?_, ?_⟩
              · have := List.length_filter_le (partsB kss m) (List.range j)
                rw [List.length_range] at this
                rw [natV_len]
                exact small1000 (by omega)
              · refine ⟨_, rfl, fun b o' e' => ?_, ?_, ?_⟩
                · rw [upd_ne (ne_of_none e' nf)]
                  exact s35 b o' e'
                · rw [upd_ne fq.symm]
                  exact s5 _ _ h3
                · rw [upd_same, range_next, pb, if_pos rfl, natV_app]
                  rfl
            | false =>
              have n1 := hn.mpr pb
              rw [decide_eq_false (by omega : ¬ (n : Int) > 1)]
              refine iteF ⟨_, rfl, s35, s5 _ _ h3, ?_⟩
              rw [range_next, pb, if_neg (by decide), List.append_nil]
              exact s5 _ _ g3
      · rintro σ H3 ⟨e3, rfl, s3, h3, g3⟩
        have g3' : H3 f = some (.lst (natV ((List.range kss.length).filter (partsB kss m)))) := g3
        clear g3
        refine ⟨_, rfl, Nat.zero_le _, fun b hb => ?_⟩
        obtain ⟨H6, e6, s6, f6⟩ := gen H3 hb (.lst [])
        rw [e6]
        clear e6
        refine ⟨f, b, _, rfl, rfl, SqL.of (s6 _ _ g3'), SqL.of f6, _, rfl, ?_⟩
        have s36 := s3.trans s6
        cases em : (List.range kss.length).filter (partsB kss m) with
        | nil =>
          refine iteT ?_
          have hs : IsH kss m := fun p hp np a ha b' hb' => by
            refine Classical.byContradiction fun ne => ?_
            have : p ∈ (List.range kss.length).filter (partsB kss m) := List.mem_filter.mpr ⟨List.mem_range.mpr hp, (partsB_iff lm.some).mpr ⟨np, a, ha, b', hb', ne⟩⟩
            rw [em] at this
            cases this
          have me := least_of lm sub inn hs
          refine ⟨_, rfl, q qa H6 s36 nqa ?_⟩
          rw [← me]
          exact s6 _ _ h3
        | cons x xs =>
          rw [em] at g3'
          refine iteF ?_
          have xin : x ∈ (List.range kss.length).filter (partsB kss m) := by rw [em]; exact List.mem_cons_self ..
          obtain ⟨xr, xp⟩ := List.mem_filter.mp xin
          have xl := List.mem_range.mp xr
          obtain ⟨xn, a, ha, b', hb', ne⟩ := (partsB_iff lm.some).mp xp
          have c1 : cutV (natV (x :: xs)) none (some 1) = natV [x] := cut_first _
          refine ⟨_, rfl, _, rfl, _, rfl, f, _, rfl, SqL.of (s6 _ _ g3'), fun cp hcp => ?_⟩
          rw [c1]
          obtain ⟨H7, e7, s7, f7⟩ := gen H6 hcp (.lst (natV [x]))
          rw [e7]
          clear e7
          refine ⟨qa, cp, _, _, rfl, rfl, s7 _ _ (s6 _ _ h3), f7, ?_, fun dp hdp => ?_⟩
          · rw [natV_len, natV_len]
            exact Nat.le_of_lt (small1000 (by simp only [List.length_singleton]; omega))
          rw [← natV_app]
          obtain ⟨H8, e8, s8, f8⟩ := gen H7 hdp (.lst (natV (m ++ [x])))
          rw [e8]
          clear e8
          refine ⟨dp, nums (m ++ [x]), rfl, SqL.of (by rw [f8, natV_nums]), fun ns' p2 pm2 so2 hp2 => ?_⟩
          obtain ⟨H9, e9, s9, f9⟩ := gen H8 hp2 (.lst (ns'.map V.int))
          rw [e9]
          clear e9
          have ndj : (m ++ [x]).Nodup := List.nodup_append.mpr ⟨nodup_up lm.up, by simp, fun y hy z hz e => xn (by rw [List.mem_singleton] at hz; rw [← hz, ← e]; exact hy)⟩
          obtain ⟨v, rfl, pv, uv⟩ := sorted_back pm2 so2 ndj
          have mv : ∀ y, y ∈ v ↔ y ∈ m ∨ y = x := fun y => by rw [pv.mem_iff, List.mem_append, List.mem_singleton]
          have s39 := s36.trans (s7.trans (s8.trans s9))
          refine ⟨v, p2, _, _, _, rfl, s39, (s36.trans (s7.trans s8)).free hp2, by rw [f9, natV_nums], ⟨fun z => ?_, uv, fun y hy => ?_⟩, fun y hy => (mv y).mpr (.inl (sub y hy)), fun y hy => ?_, ?_⟩
          · have := (mv x).mpr (.inr rfl)
            rw [z] at this
            cases this
          · rcases (mv y).mp hy with h | h
            · exact lm.low y h
            · rw [h]
              exact xl
          · rcases (mv y).mp hy with h | h
            · exact inn y h
            · rw [h]
              exact LH.tell (inn a ha) (inn b' hb') xl ne
          · rw [pv.length_eq, List.length_append]
            simp only [List.length_singleton]
            omega
    · rintro σ H1 ⟨m, qa, e1, e2, e3, rfl, s1, nqa, hqa, lm, sub, inn, le⟩
      have := lm.len
      omega
end
end K07

namespace K07
open PySem PySem.Spec PyProof.Rows L2 GL
/-- a company and a lot, as data -/
def pairP (kss : List (List Int)) (l : List Nat) : PyData := .list [tabP kss, rowP (nums l)]
theorem lay_tab (kss : List (List Int)) : PyData.canLay0 (tabP kss) = true := by
  unfold tabP
  simp only [PyData.canLay0]
  exact lay_rows kss
theorem lay_pair (kss : List (List Int)) (l : List Nat) : PyData.canLay0 (pairP kss l) = true := by
  unfold pairP
  simp only [PyData.canLay0, PyData.canLayAll0]
  rw [lay_tab, lay_row]
  rfl
theorem shaped_pair (kss : List (List Int)) (l : List Nat) : SeqAt.shaped (pairP kss l) = true := by
  have d : (pairP kss l).depth ≤ 3 := by
    unfold pairP
    simp only [PyData.depth, PyData.depthAll]
    have := depth_rows kss
    have := depth_row (nums l)
    omega
  unfold SeqAt.shaped
  rw [lay_pair, decide_eq_true (Nat.le_trans d (by decide))]
  rfl
theorem eqv_pair (kss : List (List Int)) (l : List Nat) : PyData.eqv (pairP kss l) (pairP kss l) = true := SeqAt.eqv_refl _ (lay_pair kss l)
theorem Tab.dp {K : PySem.W.Frag} {H : Hp} {c : Addr} {rs : List Addr} {kss : List (List Int)} (t : Tab H c rs kss) : Dp K H (.ref c) (tabP kss) := .lst (SqL.of t.top) (dpAll_rows t.len fun i r ks a b => SqL.of (t.row i r ks a b))
theorem nat_dp {K : PySem.W.Frag} {H : Hp} {o : Addr} {l : List Nat} (h : H o = some (.lst (natV l))) : Dp K H (.ref o) (rowP (nums l)) := dp_row (SqL.of (by rw [← natV_nums]; exact h))
section
variable {P : Program} {w : World} {K : PySem.W.Frag} {mg : Str → Option Value} {base : Heap}
end
end K07

namespace K07
open PySem PySem.Spec PyProof.Rows L2 GL
def UseK (P : Program) (w : World) (K : PySem.W.Frag) (mg : Str → Option Value) (base : Heap) (x : Str) (ps ks : List Str) (g : List Value → List Value → List Value) (gV : List V → List V → List V) (sp : Sp) (k : Nat) : Prop := ∃ f fd, FnOk P w K mg base CX0 k f fd ps sp ∧ mg x = some (.ref f) ∧ PySem.W.keepIn K (.ref f) = true ∧ KBinds K fd ps ks g gV
abbrev gQ210 := gK
abbrev gQV210 := gKV
theorem gQ210_rel {vs : List V} {us : List Value} {zs : List V} {ws : List Value} (a : Vals vs us) (b : Vals zs ws) : Vals (gQV210 vs zs) (gQ210 us ws) := gK_rel a b
theorem nat_dt {K : PySem.W.Frag} {H : Hp} {o : Addr} {l : List Nat} (h : H o = some (.lst (natV l))) : Dt K H (.ref o) (rowP (nums l)) := by
  rw [natV_nums] at h
  exact .lst h (dts_ints _)
theorem nice_nat {l : List Nat} (h : l.length ≤ 50) (low : ∀ x ∈ l, x < 1000) : Nice 3 (rowP (nums l)) := by
  refine .inr ⟨_, .inl rfl, by unfold nums; rw [List.length_map, List.length_map]; exact h, fun e he => ?_⟩
  unfold nums at he
  obtain ⟨z, hz, rfl⟩ := List.mem_map.mp he
  obtain ⟨x, hx, rfl⟩ := List.mem_map.mp hz
  refine Nice.leaf (show ((x : Nat) : Int).natAbs < 2 ^ 100 from ?_)
  have := low x hx
  have : (1000 : Nat) < 2 ^ 100 := by decide
  omega
theorem least_low {kss : List (List Int)} {l : List Nat} (h : kss.length ≤ 40) : (leastK kss l).length ≤ 50 ∧ ∀ x ∈ leastK kss l, x < 1000 := by
  refine ⟨?_, fun x hx => by have := (mem_least.mp hx).low; omega⟩
  have := List.length_filter_le (fun j => @decide (LH (tieN kss) kss.length (fun x => x ∈ l) j) (Classical.propDecidable _)) (List.range kss.length)
  rw [List.length_range] at this
  unfold leastK
  omega
def spLotRight : Sp := fun vs H Q _ => ∃ (k : Int) (c o u : Addr) (rs : List Addr) (kss : List (List Int)) (l : List Nat), vs = [.int k, .ref c, .ref o, .ref u] ∧ 2 ≤ k ∧ k ≤ 9 ∧ Tab H c rs kss ∧ Fine k kss ∧ 1 ≤ kss.length ∧ kss.length ≤ 40 ∧ H o = some (.lst (natV l)) ∧ Lot kss.length l ∧ H u = some (.lst (natV (leastK kss l))) ∧ ∀ H', Same H H' → Q (.bl true) H'
section
variable {P : Program} {w : World} {K : PySem.W.Frag} {mg : Str → Option Value} {base : Heap}
abbrev sLotRight : Stmt := topS 37
abbrev nLotRight : List Str := ["_law_kinds", "_law_company_here", "_law_lot", "_law_due", "_law_handed", "_law_told"]
theorem scLotRight : FnScope nLotRight ["_law_kinds", "_law_company_here", "_law_lot", "_law_due"] (defScope sLotRight) := ⟨rfl, rfl, rfl, by decide +kernel, rfl, by decide +kernel, by decide +kernel⟩
theorem ok_lotRight {f : Addr} {fd : FuncData} (F : Fun K "_law_lot_right" "_law_lot_right" sLotRight f fd) (T : Bi mg) (Uleasthouse : Use P w K mg base "least_house" ["kinds", "company", "lot"] spLeast 6) (UleasthouseK : UseK P w K mg base "least_house" ["kinds", "company", "lot"] ["lot", "company", "kinds"] gQ210 gQV210 spLeast 6) (ULsame : UseG P w K mg base "_law_same" ["_law_told", "_law_due"] (spSame K) 1) (ULkept : Use P w K mg base "_law_kept" ["_law_company_here"] spKept 1) : FnG P w K mg base CX0 7 f fd ["_law_kinds", "_law_company_here", "_law_lot", "_law_due"] spLotRight := by
  obtain ⟨fUleasthouseK, fdUleasthouseK, FUleasthouseK, mUleasthouseK, kUleasthouseK, bUleasthouseK⟩ := UleasthouseK
  refine FnG.mk' F scLotRight (fun vs H Q E h => ?_) (fun cdv A outer s H vs Q E hgd hr h => ?_)
  · obtain ⟨k, c, o, u, rs, kss, l, rfl, _⟩ := h
    rfl
  · obtain ⟨k, c, o, u, rs, kss, l, rfl, k2, k9, t, fine, one, most, ho, lot, hu, q⟩ := h
    have hgd' : (A.deeper (envOfC "_law_lot_right" (defScope sLotRight) s.heap.objs.size f cdv)).guards = some [] := hgd
    refine ⟨_, (pss_cons (ps_set (i := 4) scLotRight.nd rfl (Or.inl rfl) (pe_lst (pa_cons (pe_use ULkept (hr.mono (by decide)) (by rfl) (pa_cons (pv 1) pa_nil)) (pa_cons (pe_callTy call_lstL (by rfl) T.list PyProof.Rows.boot_list (pa_cons (pv 2) pa_nil)) pa_nil))))
      (pss_cons (ps_set (i := 5) scLotRight.nd rfl (Or.inl rfl) (pe_use Uleasthouse hr (by rfl) (pa_cons (pv 0) (pa_cons (pe_ix ix_list (pv 4) pe_int (fun _ _ => rfl)) (pa_cons (pe_ix ix_list (pv 4) pe_int (fun _ _ => rfl)) pa_nil)))))
      (pss_cons (ps_if (PW.pt (pw_or (pt_not (pt_val (pe_callB call_isi (by rfl) T.isinstance (by decide +kernel) (pa_cons (pv 5) (pa_cons (pe_bltn (v := .ty "list") (by rfl) T.list (by decide +kernel) rfl) pa_nil))))) (pw_or (pt_not (pt_val (pe_useG ULsame hgd' (hr.mono (by decide)) (by rfl) (pa_cons (pv 5) (pa_cons (pv 3) pa_nil))))) (pw_or1 (pt_cmpR (op_neD hr.units) (pv 4) (pe_lst (pa_cons (pv 1) (pa_cons (pv 2) pa_nil))) (nomark _))))))
        (pss_one (ps_ret pe_bl)) pss_nil)
      (pss_cons (ps_expr (pe_bm PySem.F.plainAttrs_list PySem.F.slot_list_append PySem.F.type_list_append mt_append (pv 5) (pa_cons pe_int pa_nil)))
      (pss_cons (ps_if (pt_cmpR (op_neD hr.units) (pv 4) (pe_lst (pa_cons (pv 1) (pa_cons (pv 2) pa_nil))) (nomark _))
        (pss_one (ps_ret pe_bl)) pss_nil)
      (pss_one (ps_ret (pe_useG ULsame hgd' (hr.mono (by decide)) (by rfl) (pa_cons (pe_kws FUleasthouseK hr (by rfl) mUleasthouseK kUleasthouseK bUleasthouseK pass0 (pk_cons (pv 2) (pk_cons (pv 1) (pk_cons (pv 0) pk_nil)))) (pa_cons (pv 3) pa_nil)))))))))), ?_⟩
    have l100 : kss.length ≤ 100 := by omega
    refine ⟨_, rfl, _, _, _, rfl, t, l100, fun p ps H1 s1 u1 np hp0 hn0 => ?_⟩
    refine ⟨_, rfl, o, _, rfl, SqL.of (s1 _ _ ho), fun l2 hl2 => ?_⟩
    obtain ⟨H2, e2, s2, f2⟩ := gen H1 hl2 (.lst (natV l))
    rw [e2]
    clear e2
    refine ⟨(by show 2 ≤ sizeLine; decide), fun hd hhd => ?_⟩
    obtain ⟨H3, e3, s3, f3⟩ := gen H2 hhd (.lst [.ref p, .ref l2])
    rw [e3]
    clear e3
    have s13 := s1.trans (s2.trans s3)
    have u3 := (u1.same s2).same s3
    have f23 := s3 _ _ f2
    have at0 : atI [V.ref p, V.ref l2] 0 = some (.ref p) := rfl
    have at1 : atI [V.ref p, V.ref l2] 1 = some (.ref l2) := rfl
    refine ⟨_, rfl, _, rfl, hd, _, _, _, rfl, rfl, SqL.of f3, at0, _, rfl, hd, _, _, _, rfl, rfl, SqL.of f3, at1, k, p, l2, ps, kss, l, rfl, k2, k9, u3, fine, one, most, f23, lot, fun r H4 s4 nr hr4 => ?_⟩
    obtain ⟨ll, lw⟩ := least_low (l := l) most
    have nc := nice_nat ll lw
    refine ⟨_, rfl, _, _, _, _, _, rfl, .ty "list", .base (.lst hr4), kit_list (.list []), _, rfl, iteF ?_⟩
    have s14 := s13.trans s4
    refine ⟨_, rfl, _, rfl, _, _, _, rfl, nat_dt hr4, nat_dt (s14 _ _ hu), nc, _, rfl, iteF ?_⟩
    have pair : ∀ {H5 : Hp} {z : Addr}, Same H H5 → Same H3 H5 → H5 z = some (.lst [.ref c, .ref o]) → Dp K H5 (.ref hd) (pairP kss l) ∧ Dp K H5 (.ref z) (pairP kss l) := fun s0 s3' hz =>
      ⟨.lst (SqL.of (s3' _ _ f3)) (.cons (u3.same s3').dp (.cons (nat_dp (s3' _ _ f23)) .nil)), .lst (SqL.of hz) (.cons (t.same s0).dp (.cons (nat_dp (s0 _ _ ho)) .nil))⟩
    refine ⟨_, rfl, _, rfl, _, rfl, (by show 2 ≤ sizeLine; decide), fun z hz => ?_⟩
    obtain ⟨H5, e5, s5, f5⟩ := gen H4 hz (.lst [.ref c, .ref o])
    rw [e5]
    clear e5
    obtain ⟨d1, d2⟩ := pair (s14.trans s5) (s4.trans s5) f5
    refine ⟨_, _, d1, d2, shaped_pair kss l, shaped_pair kss l, _, rfl, ?_⟩
    rw [eqv_pair]
    refine iteF ?_
    have hr5 := s5 _ _ hr4
    refine ⟨_, rfl, .inl ⟨rfl, _, SqL.of hr5⟩, r, _, _, rfl, rfl, hr5, ?_, ?_⟩
    · rw [natV_len]
      exact small1000 (by omega)
    have nr0 : H r = none := s13.free nr
    have s06 : Same H (upd H5 r (.lst (natV (leastK kss l) ++ [V.int 99]))) := fun b o' e => by
      rw [upd_ne (ne_of_none e nr0)]
      exact (s14.trans s5) _ _ e
    have s36 : Same H3 (upd H5 r (.lst (natV (leastK kss l) ++ [V.int 99]))) := fun b o' e => by
      rw [upd_ne (ne_of_none e nr)]
      exact (s4.trans s5) _ _ e
    generalize upd H5 r (.lst (natV (leastK kss l) ++ [V.int 99])) = H6 at s06 s36
    refine ⟨_, rfl, _, rfl, _, rfl, (by show 2 ≤ sizeLine; decide), fun z2 hz2 => ?_⟩
    obtain ⟨H7, e7, s7, f7⟩ := gen H6 hz2 (.lst [.ref c, .ref o])
    rw [e7]
    clear e7
    obtain ⟨d3, d4⟩ := pair (s06.trans s7) (s36.trans s7) f7
    refine ⟨_, _, d3, d4, shaped_pair kss l, shaped_pair kss l, _, rfl, ?_⟩
    rw [eqv_pair]
    refine iteF ?_
    have s07 := s06.trans s7
    refine ⟨_, rfl, _, rfl, _, rfl, k, c, o, rs, kss, l, rfl, k2, k9, t.same s07, fine, one, most, s07 _ _ ho, lot, fun r2 H8 s8 nr2 hr8 => ?_⟩
    exact ⟨_, rfl, _, _, _, rfl, nat_dt hr8, nat_dt (s8 _ _ (s07 _ _ hu)), nc, q _ (s07.trans s8)⟩
end
end K07

namespace K07
open PySem PySem.Spec PyProof.Rows L2 GL
/-- the houses among the lots -/
def homes (kss : List (List Int)) (ts : List (Addr × List Nat)) : List (Addr × List Nat) := ts.filter fun t => houseB kss t.2
theorem homes_more {kss : List (List Int)} {ts : List (Addr × List Nat)} {j : Nat} {u : Addr × List Nat} (e : ts[j]? = some u) : homes kss (ts.take (j + 1)) = homes kss (ts.take j) ++ (if houseB kss u.2 then [u] else []) := by
  unfold homes
  rw [List.take_add_one, e, List.filter_append]
  congr 1
  show [u].filter _ = _
  cases c : houseB kss u.2 <;> simp [c]
/-- who is in all of some houses that hold a lot -/
def inAll (l : List Nat) (us : List (Addr × List Nat)) (p : Nat) : Bool := us.all fun u => !(l.all fun x => decide (x ∈ u.2)) || decide (p ∈ u.2)
theorem inAll_more {l : List Nat} {us : List (Addr × List Nat)} {j : Nat} {u : Addr × List Nat} (e : us[j]? = some u) (p : Nat) : inAll l (us.take (j + 1)) p = (inAll l (us.take j) p && (!(l.all fun x => decide (x ∈ u.2)) || decide (p ∈ u.2))) := by
  unfold inAll
  rw [List.take_add_one, e, List.all_append]
  simp
/-- all houses tell the least one -/
theorem all_least {kss : List (List Int)} {l : List Nat} {us : List (Addr × List Nat)} (hl : l ≠ []) (low : ∀ x ∈ l, x < kss.length) (isH : ∀ u ∈ us, IsH kss u.2 ∧ ∀ x ∈ u.2, x < kss.length) (told : ∀ m, Lot kss.length m → IsH kss m → ∃ u ∈ us, u.2 = m) : (List.range kss.length).filter (inAll l us) = leastK kss l := by
  refine up_ext (List.pairwise_lt_range.sublist List.filter_sublist) (least_up kss l) fun j => ?_
  rw [mem_least, List.mem_filter, List.mem_range]
  unfold inAll
  rw [List.all_eq_true]
  constructor
  · rintro ⟨hj, h⟩
    refine ⟨hj, fun S s1 s2 s3 => ?_⟩
    have S' : ∀ x, Decidable (S x) := fun x => Classical.propDecidable _
    have mem : ∀ x, x ∈ (List.range kss.length).filter (fun x => @decide (S x) (S' x)) ↔ S x := fun x => by
      rw [List.mem_filter, List.mem_range]
      exact ⟨fun h => @of_decide_eq_true _ (S' x) h.2, fun h => ⟨s1 x h, @decide_eq_true _ (S' x) h⟩⟩
    obtain ⟨x0, hx0⟩ := List.exists_mem_of_ne_nil _ hl
    have ne : (List.range kss.length).filter (fun x => @decide (S x) (S' x)) ≠ [] := fun z => by
      have := (mem x0).mpr (s3 x0 hx0)
      rw [z] at this
      cases this
    have lot : Lot kss.length ((List.range kss.length).filter (fun x => @decide (S x) (S' x))) := ⟨ne, List.pairwise_lt_range.sublist List.filter_sublist, fun x hx => s1 x ((mem x).mp hx)⟩
    obtain ⟨u, hu, e⟩ := told _ lot fun p hp np a ha b hb => s2 p hp (fun z => np ((mem p).mpr z)) a b ((mem a).mp ha) ((mem b).mp hb)
    have hs := h u hu
    rw [e] at hs
    have all : (l.all fun x => decide (x ∈ (List.range kss.length).filter (fun x => @decide (S x) (S' x)))) = true := List.all_eq_true.mpr fun x hx => decide_eq_true ((mem x).mpr (s3 x hx))
    rw [all] at hs
    exact (mem j).mp (of_decide_eq_true (by simpa using hs))
  · intro h
    refine ⟨h.low, fun u hu => ?_⟩
    cases c : l.all fun x => decide (x ∈ u.2) with
    | false => rfl
    | true =>
      have sub : ∀ x ∈ l, x ∈ u.2 := fun x hx => of_decide_eq_true (List.all_eq_true.mp c x hx)
      have := LH.least (S := fun x => x ∈ u.2) (isH u hu).2 (fun p hp np a b ha hb => (isH u hu).1 p hp np a ha b hb) sub h
      simp [this]
def spRight : Sp := fun vs H Q _ => ∃ (g : Addr) (n : Nat), vs = [.ref g] ∧ Gen H g (n + 30000) ∧ ∀ H', But g H H' → Q (.bl true) H'
section
variable {P : Program} {w : World} {K : PySem.W.Frag} {mg : Str → Option Value} {base : Heap}
abbrev sRight : Stmt := topS 38
abbrev nRight : List Str := ["_law_generator_here", "_law_kinds", "_law_company_here", "_law_lots_here", "_law_houses", "_law_lot", "_law_due", "_law_house_here", "_law_person"]
theorem scRight : FnScope nRight ["_law_generator_here"] (defScope sRight) := ⟨rfl, rfl, rfl, by decide +kernel, rfl, by decide +kernel, by decide +kernel⟩
theorem ok_right {f : Addr} {fd : FuncData} (F : Fun K "_law_right" "_law_right" sRight f fd) (T : Bi mg) (ULrandom : Use P w K mg base "_law_random" ["_law_generator_here", "_law_bound"] spRandom 2) (ULcompany : Use P w K mg base "_law_company" ["_law_generator_here", "_law_kinds", "_law_most"] spCompany 4) (ULlots : Use P w K mg base "_law_lots" ["_law_size"] spLots 1) (ULhouse : Use P w K mg base "_law_house" ["_law_company_here", "_law_lot"] spHouse 2) (ULlotright : UseG P w K mg base "_law_lot_right" ["_law_kinds", "_law_company_here", "_law_lot", "_law_due"] spLotRight 7) : FnG P w K mg base CX0 8 f fd ["_law_generator_here"] spRight := by
  refine FnG.mk' F scRight (fun vs H Q E h => ?_) (fun cdv A outer s H vs Q E hgd hr h => ?_)
  · obtain ⟨g, n, rfl, _⟩ := h
    rfl
  · obtain ⟨g, n, rfl, G, q⟩ := h
    have hgd' : (A.deeper (envOfC "_law_right" (defScope sRight) s.heap.objs.size f cdv)).guards = some [] := hgd
    refine ⟨_, (pss_cons (ps_set (i := 1) scRight.nd rfl (Or.inl rfl) (pe_op op_add pe_int (pe_use ULrandom (hr.mono (by decide)) (by rfl) (pa_cons (pv 0) (pa_cons pe_int pa_nil)))))
      (pss_cons (ps_set (i := 2) scRight.nd rfl (Or.inr rfl) (pe_use ULcompany (hr.mono (by decide)) (by rfl) (pa_cons (pv 0) (pa_cons (pv 1) (pa_cons pe_int pa_nil)))))
      (pss_cons (ps_set (i := 3) scRight.nd rfl (Or.inl rfl) (pe_use ULlots (hr.mono (by decide)) (by rfl) (pa_cons (pe_callB call_len_seq (by rfl) T.len PySem.boot_len (pa_cons (pv 2) pa_nil)) pa_nil)))
      (pss_cons (ps_setLc (i := 4) (own := [("_law_lot", 5)]) (g := (gName 5)) (tt := (tB (tCall spHouse [] E0 (tCons (tVar 2) (tCons (tVar 5) tNil))))) (te := (tVar 5)) rfl scRight.nd rfl rfl (sw_true rfl rfl rfl (by decide +kernel)) (pi_list (pv 3))
          (blkOk_by (N := nRight) (sc := (defScope sRight)) (by decide +kernel)) (fun _ _ _ _ _ => (pg_name (i := 5) scRight.nd rfl (Or.inl rfl))) (fun _ _ _ _ _ => by exact (pts_one (pt_val (pe_use ULhouse (hr.mono (by decide)) (by rfl) (pa_cons (pv 2) (pa_cons (pv 5) pa_nil))))))
          (fun _ _ _ _ _ => by exact (pv 5)))
      (pss_cons (ps_for PassesOwn.never rfl (pi_list (pv 3)) (pg_name (i := 5) scRight.nd rfl (Or.inl rfl))
        (pss_cons (ps_set (i := 6) scRight.nd rfl (Or.inl rfl) (pe_listRg rfl (by rfl) T.list (prg_1 (by rfl) T.range (pe_callB call_len_seq (by rfl) T.len PySem.boot_len (pa_cons (pv 2) pa_nil)))))
        (pss_cons (ps_for PassesOwn.never rfl (pi_list (pv 4)) (pg_name (i := 7) scRight.nd rfl (Or.inr rfl))
          (pss_one (ps_if (pt_cmpR (op_eqNil hr.units) (pe_lc (own := [("_law_person", 8)]) (g := (gName 8)) (tt := (tTest (tOp (rIn K true) (tVar 8) (tVar 7)))) (te := (tVar 8)) rfl scRight.nd (pi_list (pv 5))
            (blkOk_by (N := nRight) (sc := (defScope sRight)) (by decide +kernel)) (fun _ _ _ _ _ => (pg_name (i := 8) scRight.nd rfl (Or.inl rfl))) (fun _ _ _ _ _ => by exact (pts_one (pt_cmpR op_notIn_seq (pv 8) (pv 7) (by rfl))))
            (fun _ _ _ _ _ => by exact (pv 8))) (pe_lst pa_nil) (nomark _))
            (pss_one (ps_setLc (i := 6) (own := [("_law_person", 8)]) (g := (gName 8)) (tt := (tTest (tOp (rIn K false) (tVar 8) (tVar 7)))) (te := (tVar 8)) rfl scRight.nd rfl rfl (sw_true rfl rfl rfl (by decide +kernel)) (pi_list (pv 6))
                (blkOk_by (N := nRight) (sc := (defScope sRight)) (by decide +kernel)) (fun _ _ _ _ _ => (pg_name (i := 8) scRight.nd rfl (Or.inl rfl))) (fun _ _ _ _ _ => by exact (pts_one (pt_cmpR op_in_seq (pv 8) (pv 7) (by rfl))))
                (fun _ _ _ _ _ => by exact (pv 8)))) pss_nil)))
        (pss_one (ps_if (pt_not (pt_val (pe_useG ULlotright hgd' hr (by rfl) (pa_cons (pv 1) (pa_cons (pv 2) (pa_cons (pv 5) (pa_cons (pv 6) pa_nil)))))))
          (pss_one (ps_ret pe_bl)) pss_nil)))))
      (pss_one (ps_ret pe_bl))))))), ?_⟩
    refine ⟨_, rfl, g, 3, n + 29995, rfl, by decide, by decide, G, fun r H1 r0 r1 G1 b1 => ⟨_, _, rfl, rfl, ?_⟩⟩
    refine ⟨_, rfl, _, rfl, g, 2 + r, 6, n + 9995, rfl, by omega, by omega, by decide, by decide, G1, fun c H2 sz b2 G2 z1 z6 co => ?_⟩
    obtain ⟨rs, kss, t, lk, fine, nc, nc0, nr0⟩ := co.ex
    have k2 : (2 : Int) ≤ 2 + r := by omega
    have k9 : 2 + r ≤ 9 := by omega
    have lr : (rs.map V.ref).length = sz := by rw [List.length_map, t.len, lk]
    refine ⟨_, rfl, c, _, rfl, .inl (SqL.of t.top), ?_⟩
    rw [lr]
    refine ⟨sz, rfl, by omega, fun L ts H3 s3 nL R pm so => ?_⟩
    have t3 := t.same s3
    have m1 : 1 ≤ kss.length := by omega
    have m40 : kss.length ≤ 40 := by omega
    have fin : ∀ H', Same H3 H' → Q (.bl true) H' := fun H' s' => q H' (b1.trans (b2.trans (.of (s3.trans s'))))
    have isLot : ∀ u ∈ ts, Lot kss.length u.2 := fun u hu => by
      have : u.2 ∈ (rawLots sz).filter fun l => !l.isEmpty := pm.mem_iff.mp (List.mem_map_of_mem hu)
      obtain ⟨x1, x2⟩ := List.mem_filter.mp this
      obtain ⟨y1, y2⟩ := (raw_mem sz _).mp x1
      exact ⟨fun z => (by rw [z] at x2; cases x2), y1, fun p hp => (by rw [lk]; exact y2 p hp)⟩
    have allLots : ∀ l, Lot kss.length l → ∃ u ∈ ts, u.2 = l := fun l hl => by
      have : l ∈ ts.map (·.2) := pm.mem_iff.mpr (List.mem_filter.mpr ⟨(raw_mem sz l).mpr ⟨hl.up, fun p hp => by rw [← lk]; exact hl.low p hp⟩, by
        cases e : l with
        | nil => exact absurd e hl.some
        | cons => rfl⟩)
      obtain ⟨u, hu, e⟩ := List.mem_map.mp this
      exact ⟨u, hu, e⟩
    have lts : ts.length ≤ 64 := by
      have h1 := pm.length_eq
      rw [List.length_map] at h1
      have h2 := List.length_filter_le (fun l : List Nat => !l.isEmpty) (rawLots sz)
      rw [raw_len] at h2
      have h3 : 2 ^ sz ≤ 64 := Nat.pow_le_pow_right (n := 2) (by decide) (by omega : sz ≤ 6)
      omega
    -- the houses among the lots
    refine ⟨_, rfl, L, rfl, ⟨_, SqL.of R.top⟩, fun T' hT => ?_⟩
    refine lc_list (K := K) (a := L) (xs := ts.map fun t => V.ref t.1) (fun j H7 => Same H3 H7 ∧ H7 T' = some (.lst ((homes kss (ts.take j)).map fun t => V.ref t.1))) ⟨same_new hT, upd_same⟩ (fun j H7 _ z => SqL.of (z.1 _ _ R.top)) ?_ ?_
    · rintro j y H7 hj ⟨s7, h7⟩
      rw [List.getElem?_map] at hj
      cases e : ts[j]? with
      | none =>
        rw [e] at hj
        cases hj
      | some u =>
        rw [e] at hj
        cases hj
        have um := List.mem_of_getElem? e
        have jl := (List.getElem?_eq_some_iff.mp e).1
        have tk := homes_more (kss := kss) e
        refine ⟨rfl, ?_⟩
        refine ⟨_, rfl, _, rfl, c, u.1, rs, kss, _, u.2, rfl, t3.same s7, fine, by omega, s7 _ _ (R.row u um), isLot u um, fun H8 s8 => ⟨_, rfl, ?_⟩⟩
        cases hb2 : houseB kss u.2 with
        | false =>
          refine iteF ⟨s7.trans s8, ?_⟩
          rw [tk, hb2, if_neg (by decide), List.append_nil]
          exact s8 _ _ h7
        | true =>
          refine iteT ⟨_, rfl, _, s8 _ _ h7, ?_, fun b o e' => ?_, ?_⟩
          · rw [List.length_map]
            have := List.length_filter_le (fun t : Addr × List Nat => houseB kss t.2) (ts.take j)
            rw [List.length_take] at this
            exact small1000 (by unfold homes; omega)
          · rw [upd_ne (ne_of_none e' hT)]
            exact s8 b o (s7 b o e')
          · rw [upd_same, tk, hb2, List.map_append]
            rfl
    · rintro H7 ⟨s7, h7⟩
      rw [List.length_map, List.take_length] at h7
      obtain ⟨us, hus⟩ : ∃ us, homes kss ts = us := ⟨_, rfl⟩
      rw [hus] at h7
      have uin : ∀ u ∈ us, u ∈ ts ∧ houseB kss u.2 = true := fun u hu => by
        rw [← hus] at hu
        exact List.mem_filter.mp hu
      have isH : ∀ u ∈ us, IsH kss u.2 ∧ ∀ x ∈ u.2, x < kss.length := fun u hu => ⟨(house_iff (isLot u (uin u hu).1).some).mp (uin u hu).2, (isLot u (uin u hu).1).low⟩
      have told : ∀ l, Lot kss.length l → IsH kss l → ∃ u ∈ us, u.2 = l := fun l hl hh => by
        obtain ⟨u, hu, e⟩ := allLots l hl
        refine ⟨u, ?_, e⟩
        rw [← hus]
        exact List.mem_filter.mpr ⟨hu, by rw [e]; exact (house_iff hl.some).mpr hh⟩
      have R7 := R.same s7
      have t7 := t3.same s7
      -- lot by lot
      refine ⟨_, rfl, L, rfl, ⟨_, SqL.of R7.top⟩, ?_⟩
      refine for_list (K := K) (a := L) (xs := ts.map fun t => V.ref t.1) (fun i σ H8 => Same H7 H8 ∧ ∃ e1 e2 e3 : Option V, σ = [some (.ref g), some (.int (2 + r)), some (.ref c), some (.ref L), some (.ref T'), e1, e2, e3, none]) ⟨Same.refl _, none, none, none, rfl⟩ (fun i σ H' _ z => SqL.of (z.1 _ _ R7.top)) ?_ ?_
      · rintro i y σ H8 hy ⟨s8, e1, e2, e3, rfl⟩
        rw [List.getElem?_map] at hy
        cases e : ts[i]? with
        | none =>
          rw [e] at hy
          cases hy
        | some w0 =>
          rw [e] at hy
          cases hy
          have wm := List.mem_of_getElem? e
          obtain ⟨o, l⟩ := w0
          have lot := isLot _ wm
          have ho8 := s8 _ _ (R7.row _ wm)
          dsimp only at lot ho8
          refine ⟨_, rfl, c, _, rfl, .inl (SqL.of (t7.same s8).top), _, rfl, RgOk.of_le (by omega) (by omega) (by omega) (by omega), fun d0 hd0 => ?_⟩
          rw [lr, rg_nat]
          obtain ⟨H9, e9, s9, f9⟩ := gen H8 hd0 (.lst (natV (List.range sz)))
          rw [e9]
          clear e9
          have s79 := s8.trans s9
          refine ⟨_, rfl, T', rfl, ⟨_, SqL.of (s79 _ _ h7)⟩, ?_⟩
          refine for_list (K := K) (a := T') (xs := us.map fun t => V.ref t.1) (fun j σ H' => Same H7 H' ∧ ∃ (da : Addr) (e3 : Option V), σ = [some (.ref g), some (.int (2 + r)), some (.ref c), some (.ref L), some (.ref T'), some (.ref o), some (.ref da), e3, none] ∧ H' da = some (.lst (natV ((List.range sz).filter (inAll l (us.take j))))))
            ⟨s79, d0, e3, rfl, by
              rw [f9]
              congr 3
              exact (List.filter_eq_self.mpr fun x _ => rfl).symm⟩ (fun i σ H' _ z => SqL.of (z.1 _ _ h7)) ?_ ?_
          · rintro j y σ H10 hy ⟨s10, da, e3, rfl, hda⟩
            rw [List.getElem?_map] at hy
            cases ej : us[j]? with
            | none =>
              rw [ej] at hy
              cases hy
            | some u =>
              rw [ej] at hy
              cases hy
              have um := List.mem_of_getElem? ej
              obtain ⟨ut, uh⟩ := uin u um
              have hu10 := s10 _ _ (R7.row u ut)
              have ho10 := s10 _ _ (R7.row _ wm)
              dsimp only at ho10
              have more := inAll_more (l := l) ej
              refine ⟨_, rfl, o, rfl, ⟨_, SqL.of ho10⟩, fun D hD => ?_⟩
              refine lc_list (K := K) (a := o) (xs := natV l) (fun a H5 => Same H10 H5 ∧ H5 D = some (.lst (natV ((l.take a).filter fun x => !decide (x ∈ u.2))))) ⟨same_new hD, upd_same⟩ (fun a H5 _ z => SqL.of (z.1 _ _ ho10)) ?_ ?_
              · rintro a z H5 hz ⟨s5, h5⟩
                obtain ⟨x, ex, rfl⟩ := natV_get hz
                have al := (List.getElem?_eq_some_iff.mp ex).1
                refine ⟨rfl, ?_⟩
                refine ⟨_, rfl, _, rfl, u.1, _, rfl, .inl (SqL.of (s5 _ _ hu10)), rfl, flat_nat u.2, _, rfl, ?_⟩
                show ite ((!inV (.int (x : Nat)) (natV u.2)) = true) _ _
                rw [inV_nat]
                have nx := filter_next (f := fun x => !decide (x ∈ u.2)) ex
                cases cc : (!decide (x ∈ u.2)) with
                | false =>
                  refine iteF ⟨s5, ?_⟩
                  rw [nx, cc, if_neg (by decide), List.append_nil]
                  exact h5
                | true =>
                  refine iteT ⟨_, rfl, _, h5, ?_, fun b o' e' => ?_, ?_⟩
                  · have := List.length_filter_le (fun x => !decide (x ∈ u.2)) (l.take a)
                    rw [List.length_take] at this
                    have := lot.len
                    rw [natV_len]
                    exact small1000 (by omega)
                  · rw [upd_ne (ne_of_none e' hD)]
                    exact s5 b o' e'
                  · rw [upd_same, nx, cc, if_pos rfl, natV_app]
                    rfl
              · rintro H5 ⟨s5, h5⟩
                rw [natV_len, List.take_length] at h5
                refine ⟨Nat.zero_le _, fun b hb => ?_⟩
                obtain ⟨H6, e6, s6, f6⟩ := gen H5 hb (.lst [])
                rw [e6]
                clear e6
                refine ⟨D, b, _, rfl, rfl, SqL.of (s6 _ _ h5), SqL.of f6, _, rfl, ?_⟩
                have emp : (natV (l.filter fun x => !decide (x ∈ u.2))).isEmpty = l.all fun x => decide (x ∈ u.2) := by
                  have : (natV (l.filter fun x => !decide (x ∈ u.2))).isEmpty = (l.filter fun x => !decide (x ∈ u.2)).isEmpty := by
                    unfold natV
                    rw [List.isEmpty_map]
                  rw [this, isEmpty_filter, List.any_eq_not_all_not, Bool.not_not]
                  simp
                rw [emp]
                have s56 := s5.trans s6
                cases ca : l.all fun x => decide (x ∈ u.2) with
                | false =>
                  refine iteF ⟨s10.trans s56, da, _, rfl, ?_⟩
                  rw [s56 _ _ hda]
                  congr 3
                  exact List.filter_congr fun p _ => by rw [more, ca]; simp
                | true =>
                  refine iteT ?_
                  have hda6 := s56 _ _ hda
                  refine ⟨_, rfl, da, rfl, ⟨_, SqL.of hda6⟩, fun E hE => ?_⟩
                  refine lc_list (K := K) (a := da) (xs := natV ((List.range sz).filter (inAll l (us.take j)))) (fun a H5 => Same H6 H5 ∧ H5 E = some (.lst (natV ((((List.range sz).filter (inAll l (us.take j))).take a).filter fun x => decide (x ∈ u.2))))) ⟨same_new hE, upd_same⟩ (fun a H5 _ z => SqL.of (z.1 _ _ hda6)) ?_ ?_
                  · rintro a z H7' hz ⟨s5', h5'⟩
                    obtain ⟨x, ex, rfl⟩ := natV_get hz
                    refine ⟨rfl, ?_⟩
                    refine ⟨_, rfl, _, rfl, u.1, _, rfl, .inl (SqL.of (s5' _ _ (s56 _ _ hu10))), rfl, flat_nat u.2, _, rfl, ?_⟩
                    show ite (inV (.int (x : Nat)) (natV u.2) = true) _ _
                    rw [inV_nat]
                    have nx := filter_next (f := fun x => decide (x ∈ u.2)) ex
                    cases cc : decide (x ∈ u.2) with
                    | false =>
                      refine iteF ⟨s5', ?_⟩
                      rw [nx, cc, if_neg (by decide), List.append_nil]
                      exact h5'
                    | true =>
                      refine iteT ⟨_, rfl, _, h5', ?_, fun b o' e' => ?_, ?_⟩
                      · have h1 := List.length_filter_le (fun x => decide (x ∈ u.2)) (((List.range sz).filter (inAll l (us.take j))).take a)
                        have h2 := List.length_filter_le (inAll l (us.take j)) (List.range sz)
                        rw [List.length_take] at h1
                        rw [List.length_range] at h2
                        rw [natV_len]
                        exact small1000 (by omega)
                      · rw [upd_ne (ne_of_none e' hE)]
                        exact s5' b o' e'
                      · rw [upd_same, nx, cc, if_pos rfl, natV_app]
                        rfl
                  · rintro H7' ⟨s5', h5'⟩
                    rw [natV_len, List.take_length] at h5'
                    refine ⟨s10.trans (s56.trans s5'), E, _, rfl, ?_⟩
                    rw [h5', List.filter_filter]
                    congr 3
                    exact List.filter_congr fun p _ => by
                      rw [more, ca]
                      cases inAll l (us.take j) p <;> cases decide (p ∈ u.2) <;> rfl
          · rintro σ H10 ⟨s10, da, e3, rfl, hda⟩
            rw [List.length_map, List.take_length, ← lk, all_least lot.some lot.low isH told] at hda
            refine ⟨_, rfl, _, rfl, _, rfl, _, rfl, 2 + r, c, o, da, rs, kss, l, rfl, k2, k9, t7.same s10, fine, m1, m40, s10 _ _ (R7.row _ wm), lot, hda, fun H11 s11 => ⟨_, rfl, iteF ?_⟩⟩
            exact ⟨s10.trans s11, _, _, _, rfl⟩
      · rintro σ H8 ⟨s8, e1, e2, e3, rfl⟩
        exact fin _ (s7.trans s8)
end
end K07

namespace GL
open PySem PySem.Spec PyProof.Rows L2
/-! ### set(xs) of a list of whole numbers, with all that its order hangs on -/
section
variable {P : Program} {w : World} {A : Around} {E : Value → Shared → Prop} {s : Shared}
/-- the object that a new set begins with -/
abbrev bareSet (w : World) : Obj := { cls := .type "set", dict := none, data := .set #[] 0 (.fresh 0 0 (!w.params.followText "set-order")) }
abbrev withSet (s : Shared) (w : World) : Heap := s.heap.push (bareSet w)
theorem bare_at : (withSet s w).get? s.heap.objs.size = some (bareSet w) := Heap.get?_push_size _ rfl
theorem num_at {vs : Array Value} {ns : List Int} (hi : IntsAre vs.toList ns) (hz : vs.size = ns.length) (j : Nat) (v : Value) (hv : vs[j]? = some v) : ∃ k t, ns[j]? = some k ∧ v = .int k t := by
  obtain ⟨jl, _⟩ := Array.getElem?_eq_some_iff.mp hv
  obtain ⟨t, rfl⟩ := hi.int_at j v (by rw [Array.getElem?_toList, hv])
  refine ⟨ns[j]'(by omega), t, List.getElem?_eq_getElem (by omega), ?_⟩
  rw [List.getD_eq_getElem?_getD, List.getElem?_eq_getElem (show j < ns.length by omega), Option.getD_some]
theorem two_out {a b c : Addr} (h1 : a ≠ b) (h2 : a ≠ c) : a ∉ [b, c] := fun h => by
  rcases List.mem_cons.mp h with h | h
  · exact h1 h
  · exact h2 (List.mem_singleton.mp h)
/-- what the going through leaves -/
def Left (w : World) (s : Shared) (ns : List Int) (s2 : Shared) : Prop := ∃ h2 k2 c, s2 = { s with heap := h2, toks := k2 } ∧ SetR w h2 s.heap.objs.size (fun j => decide (j ∈ ns)) c ∧ c ≤ ns.length ∧ ∀ b o, s.heap.get? b = some o → h2.get? b = some o
theorem set_lst {xs : Addr} {vs : Array Value} (ns : List Int) {Q : Value → Shared → Prop} (calm : A.handled = none) (hx : s.heap.IsList xs vs) (hi : IntsAre vs.toList ns) (few : ns.length + 1 < scanBound)
    (go : ∀ s2, Left w s ns s2 → Q (.ref s.heap.objs.size) s2) : wpAny (model P w) A (call (.type "set") [.ref xs]) Q E s := by
  have hz : vs.size = ns.length := by have z := hi.length; rwa [Array.length_toList] at z
  obtain ⟨m1, m2, m3⟩ := F.called_set.mro
  have f1 := F.called_set.made; have f2 := F.called_set.sub; have f3 := F.called_set.notType; have f4 := F.called_set.canCreate; have f5 := F.typeCall_set_1 (.ref xs)
  refine wpAny_call (codeAny_of_tree (show wpAny _ _ (callAny (.type "set") _) _ _ _ from wpAny_pure ⟨Code.quiet_builtin _ (by decide +kernel), codeAny_builtin F.entry_type_call ?_⟩))
  rw [Around.under_plain (weight_type_call_type "set" [.ref xs] []) rfl]; repeat (any_goals (first | assumption | wp_step))
  refine codeAny_mono (code_set_led1 (.ref xs) (E := E) (Q₁ := fun a s1 => a = .ref s.heap.objs.size ∧ s1 = { s with heap := withSet s w }) ⟨rfl, rfl⟩) fun r s1 z => ?_
  cases r with
  | error e => exact z
  | ok fl =>
    cases fl
    case ret a =>
      obtain ⟨rfl, rfl⟩ := z
      have B := bare_at (s := s) (w := w)
      have ty : Shared.TypeIs { s with heap := withSet s w } (.ref s.heap.objs.size) "set" := ⟨_, B, rfl⟩
      have g1 := F.called_set.init.lookup; have g2 := F.called_set.init.bind (.ref s.heap.objs.size); repeat (any_goals (first | assumption | wp_step))
      refine codeAny_mono (codeAny_call_builtin (R := wants (fun r s2 => r = .none ∧ Left w s ns s2) E) F.called_set.init.plain F.entry_set_init (check_set_init_1 ty ?_)) fun r s2 z => ?_
      · obtain ⟨⟨ocl, odi, oda, osl⟩, ho, rfl, nl, rfl⟩ := hx
        have L1 : (withSet s w).IsList xs vs := ⟨_, Heap.get?_push_of_some _ ho, rfl, nl, rfl⟩
        have ho1 := Heap.get?_push_of_some (bareSet w) ho
        have k1 := F.sub_list_set; have k2 := F.sub_list_frozenset; have k3 : (Value.type "list" == Value.type "dict") = false := by decide
        unfold Builtin.«set.__init__» noKeywords Builtin.Frozenset.updateFrom; generalize eI : pyIter = PI; wp_walk; subst eI
        refine wpAny_pyIter_list L1 (wpAny_bind (wpAny_runValue ?_))
        have xl := Heap.lt_size ho
        have zw : (withSet s w).objs.size = s.heap.objs.size + 1 := Heap.size_push ..
        refine set_update_ints ((Walks.list (by simp [calm]) _ xs (Nat.ne_of_lt (Nat.lt_of_lt_of_eq (Nat.lt_succ_of_lt xl) zw.symm)) vs).toS) s.heap.objs.size (two_out (fun q => Nat.ne_of_lt (Nat.lt_succ_self s.heap.objs.size) (q.trans zw)) (Nat.ne_of_gt xl)) ns hz few (num_at hi hz) (vs.size - 0) 0 _ (by omega) (Nat.zero_le _) ⟨⟨_, Heap.get?_push_size _ rfl, rfl, rfl⟩, L1.push _⟩
          ⟨0, Nat.le_refl 0, setR_new_at (Heap.get?_push_of_some _ B)⟩ fun s3 c mv le R3 => ?_
        obtain ⟨h3, g3, d3, t3, o3⟩ := s3
        obtain rfl : g3 = s.gens := mv.gens
        obtain rfl : d3 = s.drawn := mv.drawn
        obtain rfl : o3 = s.os := mv.os
        refine (show wpAny _ _ _ _ _ _ from wpAny_pure (show wpAny _ _ (ret Value.none) _ _ _ from wpAny_pure ⟨rfl, h3, t3, c, rfl, R3, by omega, fun b o e => ?_⟩))
        have bl := Heap.lt_size e
        exact mv.heap b o (two_out (Nat.ne_of_lt bl) fun q => Nat.ne_of_lt (Nat.lt_succ_of_lt bl) (q.trans zw)) (Heap.get?_push_of_some _ (Heap.get?_push_of_some _ e))
      · cases r with
        | error e => exact z
        | ok fl =>
          cases fl
          case ret a =>
            obtain ⟨rfl, L⟩ := z
            repeat (any_goals (first | assumption | wp_step))
            exact go _ L
          all_goals exact z.elim
    all_goals exact z.elim
end
end GL

namespace GL
open PySem PySem.Spec PyProof.Rows L2
/-- set(xs) of a list of whole numbers: a set that is tracked -/
def rSetOfL (K : PySem.W.Frag) (w : World) : List V → Hp → VK → Prop := fun xs H Q => ∃ (l : Addr) (ns : List Int), xs = [V.ref l] ∧ SqL K H l (ns.map V.int) ∧ ns.length ≤ 4000 ∧
  ∀ (a : Addr) (n : Nat), H a = none → n ≤ ns.length → Q (.ref a) (upd H a (SetO w a (fun j => decide (j ∈ ns)) n))
theorem cr_setOfL {X : Cx} (hc : X.calm = true) : CallR X (.type "set") (rSetOfL X.K X.w) := by
  intro pins s σ H vs us Q I r h
  obtain ⟨l, ns, rfl, hq, hl, q⟩ := h
  rw [Vals.ref1 r]
  obtain ⟨its, rv, pl, hz⟩ := I.list hq
  have len : ns.length = its.length := by rw [← rv.length, List.length_map]
  refine set_lst ns (I.ok.hd hc) pl.isList (by simpa using RZ.intsAre_vals rv) (by unfold scanBound; omega) fun s2 ⟨h2, k2, c, e, R, cl, keep⟩ => ?_
  subst e
  exact ⟨.ref s.heap.objs.size, upd H s.heap.objs.size (SetO X.w s.heap.objs.size (fun j => decide (j ∈ ns)) c), I.laid keep (Nat.le_refl _) (setO_new R), rfl, q _ c (I.hok.fresh (Nat.le_refl _)) cl⟩
end GL
namespace GL
open PySem PySem.Spec PyProof.Rows L2
/-- sorted(set(xs)), xs a list of fewer than 60 whole numbers -/
def tSortedSet (K : PySem.W.Frag) (ta : TE) : TE := fun σ H Q => ta σ H fun x H1 => ∃ (l : Addr) (ns : List Int), x = .ref l ∧ SqL K H1 l (ns.map V.int) ∧ ns.length < 60 ∧
  ∀ (a : Addr) (o : HO) (ms : List Int) (p : Addr), H1 a = none → ms.Pairwise (· < ·) → (∀ k, k ∈ ms ↔ k ∈ ns) → upd H1 a o p = none → Q (.ref p) (upd (upd H1 a o) p (.lst (ms.map V.int)))
theorem pe_sortedSet {X : Cx} {a : Expr} {ta : TE} {p p2 q pos : Pos} (hg : Gl X "sorted") (hm : X.mg "sorted" = none) (hg2 : Gl X "set") (hm2 : X.mg "set" = none) (ha : PE X a ta) (hc : X.calm = true := by rfl)
    (na : starEach [a] X.env = (false, eval a X.env) :: starEach [] X.env := by rfl) : PE X (.Call (.Name "sorted" p) [.Call (.Name "set" p2) [a] [] q] [] pos) (tSortedSet X.K ta) := by
  refine ⟨fun pins s σ H Q I h => ?_⟩
  refine Call_ (ld_blt I hg hm (show bootBuiltins "sorted" = some (.builtin "sorted") by decide +kernel) (PyProof.Rows.callWith_builtin1 (PyProof.Rows.args_cons ?_ rfl) rfl rfl))
  refine Call_ (ld_blt I hg2 hm2 (show bootBuiltins "set" = some (.type "set") by decide +kernel) ?_)
  refine PyProof.Rows.callWith_type1 (PyProof.Rows.args_cons (thn (ha.run pins s σ H _ I h) fun v s1 ⟨x, H1, I1, r1, q1⟩ => PyProof.Rows.args_nil ?_) na) na rfl
  obtain ⟨l, ns, rfl, hq, hl, q1⟩ := q1
  refine thn (cr_setOfL hc pins s1 σ H1 [.ref l] [v] (fun y H2 => ∃ (a : Addr) (o : HO), y = .ref a ∧ H1 a = none ∧ H2 = upd H1 a o ∧ ∃ n, n ≤ ns.length ∧ o = SetO X.w a (fun j => decide (j ∈ ns)) n) I1 (.cons r1 .nil) ⟨l, ns, rfl, hq, by omega, fun a n hn le => ⟨a, _, rfl, hn, rfl, n, le, rfl⟩⟩) fun u s2 ⟨y, H2, I2, r2, a, o, ey, hn, eH, n, le, eo⟩ => PyProof.Rows.args_nil ?_
  subst ey eH eo
  exact cr_sortedSet hc pins s2 σ _ [.ref a] [u] Q I2 (.cons r2 .nil) ⟨a, _, n, rfl, upd_same, by omega, fun ms p up mem _ np => q1 a _ ms p hn up (fun k => by rw [mem k, decide_eq_true_eq]) np⟩
end GL

namespace K07
open PySem PySem.Spec PyProof.Rows L2 GL
theorem lot_least {kss : List (List Int)} {l : List Nat} (lot : Lot kss.length l) : Lot kss.length (leastK kss l) := by
  refine ⟨fun z => ?_, least_up kss l, fun p hp => (mem_least.mp hp).low⟩
  obtain ⟨x, hx⟩ := List.exists_mem_of_ne_nil _ lot.some
  have := mem_least.mpr (LH.base (t := tieN kss) (l := fun x => x ∈ l) hx (lot.low x hx))
  rw [z] at this
  cases this
/-- ascending numbers that are not negative, as people -/
theorem as_lot {ms : List Int} {n : Nat} (up : ms.Pairwise (· < ·)) (bd : ∀ k ∈ ms, 0 ≤ k ∧ k < n) (ne : ms ≠ []) : ∃ l : List Nat, ms.map V.int = natV l ∧ Lot n l := by
  refine ⟨ms.map Int.toNat, ?_, ⟨by simpa using ne, List.pairwise_map.mpr ?_, fun p hp => ?_⟩⟩
  · unfold natV
    rw [List.map_map]
    exact List.map_congr_left fun k hk => by
      have := bd k hk
      show V.int k = V.int ((k.toNat : Nat) : Int)
      rw [Int.toNat_of_nonneg this.1]
  · have : ms.Pairwise fun a b => a < b ∧ 0 ≤ a := by
      refine List.pairwise_iff_getElem.mpr fun i j hi hj h => ⟨List.pairwise_iff_getElem.mp up i j hi hj h, (bd _ (List.getElem_mem hi)).1⟩
    exact this.imp fun ⟨x, y⟩ => by omega
  · obtain ⟨k, hk, rfl⟩ := List.mem_map.mp hp
    have := bd k hk
    omega
theorem least_twice {kss : List (List Int)} {l : List Nat} (lot : Lot kss.length l) : leastK kss (leastK kss l) = leastK kss l := by
  have L := lot_least lot
  refine (least_of L (fun x hx => hx) (fun x hx => LH.base hx (L.low x hx)) fun p hp np a ha b hb => ?_).symm
  exact LH.house p hp (fun z => np (mem_least.mpr z)) a b (mem_least.mp ha) (mem_least.mp hb)
def spGreat : Sp := fun vs H Q _ => ∃ (g : Addr) (n : Nat), vs = [.ref g] ∧ Gen H g (n + 30000) ∧ ∀ H', But g H H' → Q (.bl true) H'
section
variable {P : Program} {w : World} {K : PySem.W.Frag} {mg : Str → Option Value} {base : Heap}
abbrev sGreat : Stmt := topS 39
abbrev nGreat : List Str := ["_law_generator_here", "_law_kinds", "_law_company_here", "_law_turn", "_law_size", "_law_lot", "_law_some", "_law_due"]
theorem scGreat : FnScope nGreat ["_law_generator_here"] (defScope sGreat) := ⟨rfl, rfl, rfl, by decide +kernel, rfl, by decide +kernel, by decide +kernel⟩
theorem ok_great {f : Addr} {fd : FuncData} (F : Fun K "_law_great_right" "_law_great_right" sGreat f fd) (T : Bi mg) (ULrandom : Use P w K mg base "_law_random" ["_law_generator_here", "_law_bound"] spRandom 2) (ULcompany : Use P w K mg base "_law_company" ["_law_generator_here", "_law_kinds", "_law_most"] spCompany 4) (ULgrown : Use P w K mg base "_law_grown" ["_law_company_here", "_law_lot"] spGrownL 2) (ULlotright : UseG P w K mg base "_law_lot_right" ["_law_kinds", "_law_company_here", "_law_lot", "_law_due"] spLotRight 7) : FnG P w K mg base CX0 8 f fd ["_law_generator_here"] spGreat := by
  refine FnG.mk' F scGreat (fun vs H Q E h => ?_) (fun cdv A outer s H vs Q E hgd hr h => ?_)
  · obtain ⟨g, n, rfl, _⟩ := h
    rfl
  · obtain ⟨g, n, rfl, G, q⟩ := h
    have hgd' : (A.deeper (envOfC "_law_great_right" (defScope sGreat) s.heap.objs.size f cdv)).guards = some [] := hgd
    refine ⟨_, (pss_cons (ps_set (i := 1) scGreat.nd rfl (Or.inl rfl) (pe_op op_add pe_int (pe_use ULrandom (hr.mono (by decide)) (by rfl) (pa_cons (pv 0) (pa_cons pe_int pa_nil)))))
      (pss_cons (ps_set (i := 2) scGreat.nd rfl (Or.inl rfl) (pe_use ULcompany (hr.mono (by decide)) (by rfl) (pa_cons (pv 0) (pa_cons (pv 1) (pa_cons pe_int pa_nil)))))
      (pss_cons (ps_for PassesOwn.never rfl (pi_range1 (by rfl) T.range (pa_cons pe_int pa_nil)) (pg_name (i := 3) scGreat.nd rfl (Or.inl rfl))
        (pss_cons (ps_set (i := 4) scGreat.nd rfl (Or.inr rfl) (pe_callB call_len_seq (by rfl) T.len PySem.boot_len (pa_cons (pv 2) pa_nil)))
        (pss_cons (ps_set (i := 5) scGreat.nd rfl (Or.inl rfl) (pe_sortedSet (by rfl) T.sorted (by rfl) T.set (pe_lc (own := [("_law_some", 6)]) (g := (gName 6)) (tt := tYes) (te := (tCall spRandom [] E0 (tCons (tVar 0) (tCons (tVar 4) tNil)))) rfl scGreat.nd (pi_range1 (by rfl) T.range (pa_cons (pe_op op_add pe_int (pe_use ULrandom (hr.mono (by decide)) (by rfl) (pa_cons (pv 0) (pa_cons pe_int pa_nil)))) pa_nil))
            (blkOk_by (N := nGreat) (sc := (defScope sGreat)) (by decide +kernel)) (fun _ _ _ _ _ => (pg_name (i := 6) scGreat.nd rfl (Or.inl rfl))) (fun _ _ _ _ _ => by exact pts_nil)
            (fun _ _ _ _ _ => by exact (pe_use ULrandom (hr.mono (by decide)) (by rfl) (pa_cons (pv 0) (pa_cons (pv 4) pa_nil)))))))
        (pss_cons (ps_set (i := 7) scGreat.nd rfl (Or.inl rfl) (pe_use ULgrown (hr.mono (by decide)) (by rfl) (pa_cons (pv 2) (pa_cons (pv 5) pa_nil))))
        (pss_one (ps_if (PW.pt (pw_or (pt_not (pt_val (pe_useG ULlotright hgd' hr (by rfl) (pa_cons (pv 1) (pa_cons (pv 2) (pa_cons (pv 5) (pa_cons (pv 7) pa_nil))))))) (pw_or1 (pt_not (pt_val (pe_useG ULlotright hgd' hr (by rfl) (pa_cons (pv 1) (pa_cons (pv 2) (pa_cons (pv 7) (pa_cons (pv 7) pa_nil))))))))))
          (pss_one (ps_ret pe_bl)) pss_nil))))))
      (pss_one (ps_ret pe_bl))))), ?_⟩
    refine ⟨_, rfl, g, 8, n + 29995, rfl, by decide, by decide, G, fun r H1 r0 r1 G1 b1 => ⟨_, _, rfl, rfl, ?_⟩⟩
    refine ⟨_, rfl, _, rfl, g, 2 + r, 20, n + 9995, rfl, by omega, by omega, by decide, by decide, G1, fun c H2 sz b2 G2 z1 z6 co => ?_⟩
    obtain ⟨rs, kss, t, lk, fine, nc, nc0, nr0⟩ := co.ex
    have k2 : (2 : Int) ≤ 2 + r := by omega
    have k9 : 2 + r ≤ 9 := by omega
    have lr : (rs.map V.ref).length = sz := by rw [List.length_map, t.len, lk]
    have cg : c ≠ g := (G1.ne nc0).symm
    have gr : g ∉ rs := notin_new G1 nr0
    refine ⟨5, rfl, by decide, by decide, ?_⟩
    refine for_range (lo := 0) (n := (5 : Int).toNat) (fun i σ H' => ∃ e1 e2 e3 e4 : Option V, σ = [some (.ref g), some (.int (2 + r)), some (.ref c), e1, e2, e3, none, e4] ∧ But g H2 H' ∧ Gen H' g (n + 100 * (5 - i)))
      ⟨none, none, none, none, rfl, But.refl, G2.less (by omega)⟩ ?_ ?_
    · rintro i σ H3 hi ⟨e1, e2, e3, e4, rfl, b3, G3⟩
      have i5 : i < 5 := hi
      have t3 := t.but b3 cg gr
      refine ⟨_, rfl, c, _, rfl, .inl (SqL.of t3.top), ?_⟩
      rw [lr]
      refine ⟨_, rfl, g, 3, n + 100 * (4 - i) + 80, rfl, by decide, by decide, G3.less (by omega), fun r2 H4 q0 q1 G4 b4 => ⟨_, _, rfl, rfl, ?_⟩⟩
      refine ⟨_, rfl, by omega, by omega, fun D hD => ?_⟩
      have Dg : D ≠ g := (G4.ne hD).symm
      refine lc_it (walk_range (lo := 0) (n := (1 + r2).toNat)) (fun j H5 => But g H4 H5 ∧ Gen H5 g (n + 100 * (4 - i) + 80 - 5 * j) ∧ ∃ ns : List Int, H5 D = some (.lst (ns.map V.int)) ∧ ns.length = j ∧ ∀ k ∈ ns, 0 ≤ k ∧ k < sz)
        ⟨But.new hD, (G4.new hD).less (by omega), [], upd_same, rfl, by simp⟩ (fun _ _ _ _ => trivial) ?_ ?_
      · rintro j y H5 H6 hj ⟨b5, G5, ns, h5, l5, bd5⟩ ⟨rfl, rfl⟩
        have j3 : j < 3 := by omega
        refine ⟨rfl, yes_of ?_⟩
        refine ⟨_, rfl, _, rfl, g, sz, n + 100 * (4 - i) + 80 - 5 * (j + 1), rfl, by omega, by omega, G5.less (by omega), fun v H7 v0 v1 G7 b7 => ?_⟩
        have h7 := b7 _ _ h5 Dg
        refine ⟨_, h7, ?_, ?_, G7.other Dg, ns ++ [v], ?_, by rw [List.length_append, l5]; rfl, fun k hk => ?_⟩
        · rw [List.length_map]
          exact small1000 (by omega)
        · intro b o' e' nb
          rw [upd_ne (ne_of_none e' hD)]
          exact b7 _ _ (b5 _ _ e' nb) nb
        · rw [upd_same, List.map_append]
          rfl
        · rcases List.mem_append.mp hk with hk | hk
          · exact bd5 k hk
          · rw [List.mem_singleton] at hk
            subst hk
            exact ⟨v0, v1⟩
      · rintro H5 ⟨b5, G5, ns, h5, l5, bd5⟩
        refine ⟨D, ns, rfl, SqL.of h5, by omega, fun a so ms p na up mem np => ?_⟩
        obtain ⟨H6, e6, s6, f6⟩ := gen H5 na so
        rw [e6] at np
        rw [e6]
        clear e6
        obtain ⟨H7, e7, s7, f7⟩ := gen H6 np (.lst (ms.map V.int))
        rw [e7]
        clear e7
        have bm : ∀ k ∈ ms, 0 ≤ k ∧ k < (sz : Int) := fun k hk => bd5 k ((mem k).mp hk)
        have nem : ms ≠ [] := fun z => by
          have : ns ≠ [] := fun z => by
            rw [z] at l5
            simp at l5
            omega
          obtain ⟨x, hx⟩ := List.exists_mem_of_ne_nil _ this
          have := (mem x).mpr hx
          rw [z] at this
          cases this
        obtain ⟨l, el, lot⟩ := as_lot up bm nem
        rw [el] at f7
        have b27 : But g H2 H7 := b3.trans (b4.trans (b5.trans (.of (s6.trans s7))))
        have t7 := t.but b27 cg gr
        have G7 := (G5.same s6).same s7
        rw [← lk] at lot
        refine ⟨_, rfl, _, rfl, c, p, rs, kss, _, l, rfl, t7, fine, by omega, f7, lot, fun dp H8 s8 ndp hdp => ?_⟩
        refine ⟨_, rfl, _, rfl, _, rfl, _, rfl, 2 + r, c, p, dp, rs, kss, l, rfl, k2, k9, t7.same s8, fine, by omega, by omega, s8 _ _ f7, lot, hdp, fun H9 s9 => ⟨_, rfl, ?_⟩⟩
        refine iteF ?_
        refine ⟨_, rfl, _, rfl, _, rfl, _, rfl, 2 + r, c, dp, dp, rs, kss, leastK kss l, rfl, k2, k9, (t7.same s8).same s9, fine, by omega, by omega, s9 _ _ hdp, lot_least lot, by rw [least_twice lot]; exact s9 _ _ hdp, fun H10 s10 => ⟨_, rfl, ?_⟩⟩
        refine iteF ?_
        exact ⟨_, _, _, _, rfl, b27.trans (.of (s8.trans (s9.trans s10))), (((G7.same s8).same s9).same s10).less (by omega)⟩
    · rintro σ H3 ⟨e1, e2, e3, e4, rfl, b3, G3⟩
      exact q H3 (b1.trans (b2.trans b3))
end
end K07

namespace K07
open PySem PySem.Spec PyProof.Rows L2 GL
theorem rows_nodup {H : Hp} {rs : List Addr} {kss : List (List Int)} {k : Int} (f : Fine k kss) (l : rs.length = kss.length) (row : ∀ (i : Nat) (r : Addr) (ks : List Int), rs[i]? = some r → kss[i]? = some ks → H r = some (.lst (ks.map V.int))) : rs.Nodup := by
  refine List.pairwise_iff_getElem.mpr fun i j hi hj lt e => ?_
  have h1 := row i _ _ (List.getElem?_eq_getElem hi) (List.getElem?_eq_getElem (by omega : i < kss.length))
  have h2 := row j _ _ (List.getElem?_eq_getElem hj) (List.getElem?_eq_getElem (by omega : j < kss.length))
  rw [e, h2] at h1
  have h3 := congrArg List.length (HO.lst.inj (Option.some.inj h1))
  rw [List.length_map, List.length_map] at h3
  have a := (f i _ (List.getElem?_eq_getElem (by omega : i < kss.length))).1
  have b := (f j _ (List.getElem?_eq_getElem (by omega : j < kss.length))).1
  omega
theorem Tab.made {H : Hp} {c : Addr} {rs : List Addr} {kss : List (List Int)} {k : Int} (f : Fine k kss) (l : rs.length = kss.length) (top : H c = some (.lst (rs.map V.ref))) (row : ∀ (i : Nat) (r : Addr) (ks : List Int), rs[i]? = some r → kss[i]? = some ks → H r = some (.lst (ks.map V.int))) : Tab H c rs kss :=
  ⟨top, l, row, rows_nodup f l row⟩
/-- written companies -/
def fineB (k : Int) (kss : List (List Int)) : Bool := (List.range kss.length).all fun i => decide ((kss.getD i []).length = i) && (kss.getD i []).all fun z => decide (0 ≤ z) && decide (z < k)
theorem fine_of {k : Int} {kss : List (List Int)} (h : fineB k kss = true) : Fine k kss := fun i ks e => by
  have il := (List.getElem?_eq_some_iff.mp e).1
  have := List.all_eq_true.mp h i (List.mem_range.mpr il)
  rw [List.getD_eq_getElem?_getD, e] at this
  show ks.length = i ∧ _
  have t2 : (decide (ks.length = i) && ks.all fun z => decide (0 ≤ z) && decide (z < k)) = true := this
  rw [Bool.and_eq_true] at t2
  refine ⟨of_decide_eq_true t2.1, fun z hz => ?_⟩
  have := List.all_eq_true.mp t2.2 z hz
  rw [Bool.and_eq_true] at this
  exact ⟨of_decide_eq_true this.1, of_decide_eq_true this.2⟩
def pathK : List (List Int) := [[], [1], [0, 1]]
def lastK : List (List Int) := [[], [1], [1, 0]]
theorem Lot.one {n p : Nat} (h : p < n) : Lot n [p] := ⟨by simp, List.pairwise_singleton .., fun q hq => by rw [List.mem_singleton] at hq; omega⟩
theorem Lot.two {n p q : Nat} (h : p < q) (h2 : q < n) : Lot n [p, q] := ⟨by simp, List.pairwise_cons.mpr ⟨fun z hz => by rw [List.mem_singleton] at hz; omega, List.pairwise_singleton ..⟩, fun z hz => by
  rcases List.mem_cons.mp hz with hz | hz
  · omega
  · rw [List.mem_singleton] at hz
    omega⟩
/-- rows of noughts -/
def zs (n : Nat) : List (List Int) := (List.range n).map fun j => List.replicate j 0
theorem zs_more (n : Nat) : zs (n + 1) = zs n ++ [List.replicate n 0] := by
  unfold zs
  rw [List.range_succ, List.map_append]
  rfl
theorem zs_len (n : Nat) : (zs n).length = n := by
  unfold zs
  rw [List.length_map, List.length_range]
theorem fz : Fine 2 (zs 40) := fine_of (by decide +kernel)
/-- three rows made -/
theorem three_tab {H : Hp} {p a b c : Addr} {k : Int} {x y z : List Int} (f : Fine k [x, y, z]) (h : H p = some (.lst [.ref a, .ref b, .ref c])) (ha : H a = some (.lst (x.map V.int))) (hb : H b = some (.lst (y.map V.int))) (hc : H c = some (.lst (z.map V.int))) : Tab H p [a, b, c] [x, y, z] :=
  Tab.made f rfl h fun i r ks h1 h2 => by
    match i, h1, h2 with
    | 0, h1, h2 => cases h1; cases h2; exact ha
    | 1, h1, h2 => cases h1; cases h2; exact hb
    | 2, h1, h2 => cases h1; cases h2; exact hc
    | i + 3, h1, h2 => simp at h1
theorem one_tab {H : Hp} {p a : Addr} {k : Int} (f : Fine k [[]]) (h : H p = some (.lst [.ref a])) (ha : H a = some (.lst [])) : Tab H p [a] [[]] :=
  Tab.made f rfl h fun i r ks h1 h2 => by
    match i, h1, h2 with
    | 0, h1, h2 => cases h1; cases h2; exact ha
    | i + 1, h1, h2 => simp at h1
end K07
namespace K07
open PySem PySem.Spec PyProof.Rows L2 GL
theorem four_tab {H : Hp} {p a b c d : Addr} {k : Int} {x y z u : List Int} (f : Fine k [x, y, z, u]) (h : H p = some (.lst [.ref a, .ref b, .ref c, .ref d])) (ha : H a = some (.lst (x.map V.int))) (hb : H b = some (.lst (y.map V.int))) (hc : H c = some (.lst (z.map V.int))) (hd : H d = some (.lst (u.map V.int))) : Tab H p [a, b, c, d] [x, y, z, u] :=
  Tab.made f rfl h fun i r ks h1 h2 => by
    match i, h1, h2 with
    | 0, h1, h2 => cases h1; cases h2; exact ha
    | 1, h1, h2 => cases h1; cases h2; exact hb
    | 2, h1, h2 => cases h1; cases h2; exact hc
    | 3, h1, h2 => cases h1; cases h2; exact hd
    | i + 4, h1, h2 => simp at h1
/-- a house is its own least house -/
theorem least_self {kss : List (List Int)} {l : List Nat} (lot : Lot kss.length l) (h : houseB kss l = true) : leastK kss l = l :=
  (least_of lot (fun x hx => hx) (fun x hx => LH.base hx (lot.low x hx)) ((house_iff lot.some).mp h)).symm
/-- all people, if all come in -/
theorem least_full {kss : List (List Int)} {l : List Nat} (h1 : 1 ≤ kss.length) (lot : Lot kss.length l) (h : ∀ x, x < kss.length → LH (tieN kss) kss.length (fun x => x ∈ l) x) : leastK kss l = List.range kss.length := by
  refine up_ext (least_up kss l) List.pairwise_lt_range fun j => ?_
  rw [mem_least, List.mem_range]
  exact ⟨fun z => z.low, h j⟩
def rowK : List (List Int) := [[], [1], [0, 1], [0, 0, 1]]
def triK : List (List Int) := [[], [0], [1, 2]]
theorem l1 : leastK pathK [0, 2] = [0, 2] := least_self (Lot.two (by decide) (by decide)) (by decide +kernel)
theorem l2 : leastK rowK [1, 2] = [0, 1, 2, 3] := by
  have b1 : LH (tieN rowK) rowK.length (fun x => x ∈ [1, 2]) 1 := LH.base (by simp) (by decide)
  have b2 : LH (tieN rowK) rowK.length (fun x => x ∈ [1, 2]) 2 := LH.base (by simp) (by decide)
  refine least_full (by decide) (Lot.two (by decide) (by decide)) fun x hx => ?_
  have hx4 : x < 4 := hx
  match x, hx4 with
  | 0, _ => exact LH.tell b1 b2 (by decide) (by decide +kernel)
  | 1, _ => exact b1
  | 2, _ => exact b2
  | 3, _ => exact LH.tell b1 b2 (by decide) (by decide +kernel)
theorem l3 : leastK [[]] [0] = [0] := least_self (Lot.one (by decide)) (by decide +kernel)
theorem l4 : leastK triK [0, 1] = [0, 1, 2] := by
  have b1 : LH (tieN triK) triK.length (fun x => x ∈ [0, 1]) 0 := LH.base (by simp) (by decide)
  have b2 : LH (tieN triK) triK.length (fun x => x ∈ [0, 1]) 1 := LH.base (by simp) (by decide)
  refine least_full (by decide) (Lot.two (by decide) (by decide)) fun x hx => ?_
  have hx4 : x < 3 := hx
  match x, hx4 with
  | 0, _ => exact b1
  | 1, _ => exact b2
  | 2, _ => exact LH.tell b1 b2 (by decide) (by decide +kernel)
theorem l5 : leastK (zs 40) [0, 39] = [0, 39] := least_self (by rw [zs_len]; exact Lot.two (by decide) (by decide)) (by decide +kernel)
theorem l6 : leastK (zs 40) [5] = [5] := least_self (by rw [zs_len]; exact Lot.one (by decide)) (by decide +kernel)
end K07

namespace K07
open PySem PySem.Spec PyProof.Rows L2 GL
def dataL : PyData := .list [rowP (nums [0, 2]), rowP (nums [0, 1, 2, 3]), rowP (nums [0]), rowP (nums [0, 1, 2])]
theorem nice_last : Nice 3 dataL := .inr ⟨_, .inl rfl, by decide, fun e he => by
  have leaf : ∀ l : List Nat, l.length ≤ 50 → (∀ x ∈ l, x < 1000) → Nice 2 (rowP (nums l)) := fun l h low => by
    refine .inr ⟨_, .inl rfl, by unfold nums; rw [List.length_map, List.length_map]; exact h, fun e he => ?_⟩
    unfold nums at he
    obtain ⟨z, hz, rfl⟩ := List.mem_map.mp he
    obtain ⟨x, hx, rfl⟩ := List.mem_map.mp hz
    refine Nice.leaf (show ((x : Nat) : Int).natAbs < 2 ^ 100 from ?_)
    have := low x hx
    have : (1000 : Nat) < 2 ^ 100 := by decide
    omega
  rcases List.mem_cons.mp he with rfl | he
  · exact leaf _ (by decide) (by decide)
  rcases List.mem_cons.mp he with rfl | he
  · exact leaf _ (by decide) (by decide)
  rcases List.mem_cons.mp he with rfl | he
  · exact leaf _ (by decide) (by decide)
  rcases List.mem_cons.mp he with rfl | he
  · exact leaf _ (by decide) (by decide)
  cases he⟩
def spLaw (K : PySem.W.Frag) : Sp := fun vs H Q _ => ∃ (a : Addr) (ns : List Int), vs = [.ref a] ∧ SqL K H a (ns.map V.int) ∧ ∀ H', Q (.bl true) H'
section
variable {P : Program} {w : World} {K : PySem.W.Frag} {mg : Str → Option Value} {base : Heap}
abbrev sLaw : Stmt := topS 40
abbrev nLaw : List Str := ["_law_script", "_law_index", "_law_wide", "_law_size", "_law_told"]
theorem scLaw : FnScope nLaw ["_law_script"] (defScope sLaw) := ⟨rfl, rfl, rfl, by decide +kernel, rfl, by decide +kernel, by decide +kernel⟩
theorem ok_law {f : Addr} {fd : FuncData} (F : Fun K "law" "law" sLaw f fd) (T : Bi mg) (Uleasthouse : Use P w K mg base "least_house" ["kinds", "company", "lot"] spLeast 6) (ULgenerator : Use P w K mg base "_law_generator" ["_law_script", "_law_index"] (spGen K) 2) (ULsame : UseG P w K mg base "_law_same" ["_law_told", "_law_due"] (spSame K) 1) (ULlotright : UseG P w K mg base "_law_lot_right" ["_law_kinds", "_law_company_here", "_law_lot", "_law_due"] spLotRight 7) (ULright : UseG P w K mg base "_law_right" ["_law_generator_here"] spRight 8) (ULgreatright : UseG P w K mg base "_law_great_right" ["_law_generator_here"] spGreat 8) : FnG P w K mg base CX0 9 f fd ["_law_script"] (spLaw K) := by
  refine FnG.mk' F scLaw (fun vs H Q E h => ?_) (fun cdv A outer s H vs Q E hgd hr h => ?_)
  · obtain ⟨a, ns, rfl, _⟩ := h
    rfl
  · obtain ⟨a, ns, rfl, hS, q⟩ := h
    have hgd' : (A.deeper (envOfC "law" (defScope sLaw) s.heap.objs.size f cdv)).guards = some [] := hgd
    refine ⟨_, (pss_cons (ps_for PassesOwn.never rfl (pi_range1 (by rfl) T.range (pa_cons pe_int pa_nil)) (pg_name (i := 1) scLaw.nd rfl (Or.inl rfl))
        (pss_one (ps_if (pt_not (pt_val (pe_useG ULright hgd' hr (by rfl) (pa_cons (pe_use ULgenerator (hr.mono (by decide)) (by rfl) (pa_cons (pv 0) (pa_cons (pv 1) pa_nil))) pa_nil))))
          (pss_one (ps_ret pe_bl)) pss_nil)))
      (pss_cons (ps_if (pt_not (pt_val (pe_useG ULgreatright hgd' hr (by rfl) (pa_cons (pe_use ULgenerator (hr.mono (by decide)) (by rfl) (pa_cons (pv 0) (pa_cons pe_int pa_nil))) pa_nil))))
        (pss_one (ps_ret pe_bl)) pss_nil)
      (pss_cons (ps_setLc (i := 2) (own := [("_law_size", 3)]) (g := (gName 3)) (tt := tYes) (te := (tOp rRep (tLst (tCons (tC (.int 0)) tNil)) (tVar 3))) rfl scLaw.nd rfl rfl (sw_true rfl rfl rfl (by decide +kernel)) (pi_range1 (by rfl) T.range (pa_cons pe_int pa_nil))
          (blkOk_by (N := nLaw) (sc := (defScope sLaw)) (by decide +kernel)) (fun _ _ _ _ _ => (pg_name (i := 3) scLaw.nd rfl (Or.inl rfl))) (fun _ _ _ _ _ => by exact pts_nil)
          (fun _ _ _ _ _ => by exact (pe_op op_rep (pe_lst (pa_cons pe_int pa_nil)) (pv 3))))
      (pss_cons (ps_if (PW.pt (pw_or (pt_not (pt_val (pe_useG ULlotright hgd' (hr.mono (by decide)) (by rfl) (pa_cons pe_int (pa_cons (pv 2) (pa_cons (pe_lst (pa_cons pe_int (pa_cons pe_int pa_nil))) (pa_cons (pe_lst (pa_cons pe_int (pa_cons pe_int pa_nil))) pa_nil))))))) (pw_or1 (pt_not (pt_val (pe_useG ULlotright hgd' (hr.mono (by decide)) (by rfl) (pa_cons pe_int (pa_cons (pv 2) (pa_cons (pe_lst (pa_cons pe_int pa_nil)) (pa_cons (pe_lst (pa_cons pe_int pa_nil)) pa_nil))))))))))
        (pss_one (ps_ret pe_bl)) pss_nil)
      (pss_cons (ps_set (i := 4) scLaw.nd rfl (Or.inl rfl) (pe_lst (pa_cons (pe_use Uleasthouse (hr.mono (by decide)) (by rfl) (pa_cons pe_int (pa_cons (pe_lst (pa_cons (pe_lst pa_nil) (pa_cons (pe_lst (pa_cons pe_int pa_nil)) (pa_cons (pe_lst (pa_cons pe_int (pa_cons pe_int pa_nil))) pa_nil)))) (pa_cons (pe_lst (pa_cons pe_int (pa_cons pe_int pa_nil))) pa_nil)))) (pa_cons (pe_use Uleasthouse (hr.mono (by decide)) (by rfl) (pa_cons pe_int (pa_cons (pe_lst (pa_cons (pe_lst pa_nil) (pa_cons (pe_lst (pa_cons pe_int pa_nil)) (pa_cons (pe_lst (pa_cons pe_int (pa_cons pe_int pa_nil))) (pa_cons (pe_lst (pa_cons pe_int (pa_cons pe_int (pa_cons pe_int pa_nil)))) pa_nil))))) (pa_cons (pe_lst (pa_cons pe_int (pa_cons pe_int pa_nil))) pa_nil)))) pa_nil))))
      (pss_cons (ps_set (i := 4) scLaw.nd rfl (Or.inl rfl) (pe_op op_cat (pv 4) (pe_lst (pa_cons (pe_use Uleasthouse (hr.mono (by decide)) (by rfl) (pa_cons pe_int (pa_cons (pe_lst (pa_cons (pe_lst pa_nil) pa_nil)) (pa_cons (pe_lst (pa_cons pe_int pa_nil)) pa_nil)))) (pa_cons (pe_use Uleasthouse (hr.mono (by decide)) (by rfl) (pa_cons pe_int (pa_cons (pe_lst (pa_cons (pe_lst pa_nil) (pa_cons (pe_lst (pa_cons pe_int pa_nil)) (pa_cons (pe_lst (pa_cons pe_int (pa_cons pe_int pa_nil))) pa_nil)))) (pa_cons (pe_lst (pa_cons pe_int (pa_cons pe_int pa_nil))) pa_nil)))) pa_nil)))))
      (pss_one (ps_ret (pe_useG ULsame hgd' (hr.mono (by decide)) (by rfl) (pa_cons (pv 4) (pa_cons (pe_lst (pa_cons (pe_lst (pa_cons pe_int (pa_cons pe_int pa_nil))) (pa_cons (pe_lst (pa_cons pe_int (pa_cons pe_int (pa_cons pe_int (pa_cons pe_int pa_nil))))) (pa_cons (pe_lst (pa_cons pe_int pa_nil)) (pa_cons (pe_lst (pa_cons pe_int (pa_cons pe_int (pa_cons pe_int pa_nil)))) pa_nil))))) pa_nil))))))))))), ?_⟩
    refine ⟨3, rfl, by decide, by decide, for_range (lo := 0) (n := (3 : Int).toNat) (fun i σ H' => ∃ v : Option V, σ = [some (.ref a), v, none, none, none] ∧ Same H H') ⟨none, rfl, Same.refl _⟩ ?_ ?_⟩
    · rintro i σ H' hi ⟨v, rfl, s1⟩
      have i3 : i < 3 := hi
      refine ⟨_, rfl, _, rfl, a, ns, i, (show [V.ref a, V.int (0 + (i : Int))] = [V.ref a, V.int (i : Int)] by rw [Int.zero_add]), by omega, s1.seq hS, fun g H1 sg ng G1 => ?_⟩
      refine ⟨g, 970000, rfl, G1, fun H2 b2 => ⟨_, rfl, iteF ⟨_, rfl, ?_⟩⟩⟩
      exact fun b o e => b2 b o (sg b o (s1 b o e)) (ne_of_none (s1 b o e) ng)
    · rintro σ H' ⟨v, rfl, s1⟩
      refine ⟨_, rfl, a, ns, 3, rfl, by omega, s1.seq hS, fun g H1 sg ng G1 => ?_⟩
      refine ⟨g, 970000, rfl, G1, fun H2 b2 => ⟨_, rfl, iteF ?_⟩⟩
      refine ⟨40, rfl, by decide, by decide, fun D hD => ?_⟩
      refine lc_it (walk_range (lo := 0) (n := (40 : Int).toNat)) (fun i H3 => Same H2 H3 ∧ ∃ rs, Tab H3 D rs (zs i) ∧ D ∉ rs) ⟨same_new hD, [], ⟨upd_same, rfl, fun i r ks h => by simp at h, List.nodup_nil⟩, by simp⟩ (fun _ _ _ _ => trivial) ?_ ?_
      · rintro i y I2 I3 hi ⟨s2, rs, t, nD⟩ ⟨rfl, rfl⟩
        have i40 : i < 40 := hi
        refine ⟨rfl, yes_of ?_⟩
        refine ⟨one_le, fun l nl => ?_⟩
        obtain ⟨J1, e1, r1, f1⟩ := gen I3 nl (.lst [.int 0])
        rw [e1]
        clear e1
        refine ⟨_, rfl, l, _, _, rfl, rfl, f1, by omega, by omega, ?_, fun p np => ?_⟩
        · have : ([V.int 0] : List V).length * (0 + (i : Int)).toNat ≤ 1000 := by
            show 1 * _ ≤ _
            omega
          exact Nat.le_of_lt (small1000 this)
        obtain ⟨J2, e2, r2, f2⟩ := gen J1 np (.lst (List.replicate (0 + (i : Int)).toNat [V.int 0]).flatten)
        rw [e2]
        clear e2
        have f2' : J2 p = some (.lst ((List.replicate i (0 : Int)).map V.int)) := by
          rw [f2, rep_one, show (0 + (i : Int)).toNat = i by omega]
        obtain ⟨t2, n2⟩ := t.push nD (fun r _ o e => r2 _ _ (r1 _ _ e)) (r1.free np) f2'
        have tl := t.len
        rw [zs_len] at tl
        refine ⟨rs.map V.ref, r2 _ _ (r1 _ _ t.top), ?_, fun b o e => ?_, rs ++ [p], ?_, n2⟩
        · rw [List.length_map]
          exact small1000 (by omega)
        · rw [upd_ne (ne_of_none e hD)]
          exact r2 b o (r1 b o (s2 b o e))
        · rw [zs_more]
          exact t2
      rintro H18 ⟨s18, rs, t, nD⟩
      have t40 : Tab H18 D rs (zs 40) := t
      have zl : (zs 40).length = 40 := zs_len 40
      refine ⟨_, rfl, ?_⟩
      refine ⟨(by show 2 ≤ sizeLine; decide), fun za1 zn1 => ?_⟩
      obtain ⟨zH1, ze1, zt1, zf1⟩ := gen H18 zn1 (.lst [.int 0, .int 39])
      rw [ze1]
      clear ze1
      refine ⟨(by show 2 ≤ sizeLine; decide), fun za2 zn2 => ?_⟩
      obtain ⟨zH2, ze2, zt2, zf2⟩ := gen zH1 zn2 (.lst [.int 0, .int 39])
      rw [ze2]
      clear ze2
      refine ⟨2, D, za1, za2, rs, zs 40, [0, 39], rfl, by decide, by decide, t40.same (zt1.trans zt2), fz, by omega, by omega, (zt2 _ _ zf1), by rw [zl]; exact Lot.two (by decide) (by decide), by rw [l5]; exact zf2, fun zH3 zs3 => ⟨_, rfl, ?_⟩⟩
      have zt3 := zs3
      refine iteF ?_
      refine ⟨_, rfl, ?_⟩
      refine ⟨one_le, fun za4 zn4 => ?_⟩
      obtain ⟨zH4, ze4, zt4, zf4⟩ := gen zH3 zn4 (.lst [.int 5])
      rw [ze4]
      clear ze4
      refine ⟨one_le, fun za5 zn5 => ?_⟩
      obtain ⟨zH5, ze5, zt5, zf5⟩ := gen zH4 zn5 (.lst [.int 5])
      rw [ze5]
      clear ze5
      refine ⟨2, D, za4, za5, rs, zs 40, [5], rfl, by decide, by decide, t40.same (zt1.trans (zt2.trans (zt3.trans (zt4.trans zt5)))), fz, by omega, by omega, (zt5 _ _ zf4), by rw [zl]; exact Lot.one (by decide), by rw [l6]; exact zf5, fun zH6 zs6 => ⟨_, rfl, ?_⟩⟩
      have zt6 := zs6
      refine iteF ?_
      refine ⟨Nat.zero_le _, fun za7 zn7 => ?_⟩
      obtain ⟨zH7, ze7, zt7, zf7⟩ := gen zH6 zn7 (.lst [])
      rw [ze7]
      clear ze7
      refine ⟨one_le, fun za8 zn8 => ?_⟩
      obtain ⟨zH8, ze8, zt8, zf8⟩ := gen zH7 zn8 (.lst [.int 1])
      rw [ze8]
      clear ze8
      refine ⟨(by show 2 ≤ sizeLine; decide), fun za9 zn9 => ?_⟩
      obtain ⟨zH9, ze9, zt9, zf9⟩ := gen zH8 zn9 (.lst [.int 0, .int 1])
      rw [ze9]
      clear ze9
      refine ⟨(by show 3 ≤ sizeLine; decide), fun za10 zn10 => ?_⟩
      obtain ⟨zH10, ze10, zt10, zf10⟩ := gen zH9 zn10 (.lst [.ref za7, .ref za8, .ref za9])
      rw [ze10]
      clear ze10
      refine ⟨(by show 2 ≤ sizeLine; decide), fun za11 zn11 => ?_⟩
      obtain ⟨zH11, ze11, zt11, zf11⟩ := gen zH10 zn11 (.lst [.int 0, .int 2])
      rw [ze11]
      clear ze11
      refine ⟨2, za10, za11, [za7, za8, za9], pathK, [0, 2], rfl, by decide, by decide, three_tab (show Fine 2 pathK from fine_of (by decide +kernel)) (zt11 _ _ zf10) ((zt8.trans (zt9.trans (zt10.trans zt11))) _ _ zf7) ((zt9.trans (zt10.trans zt11)) _ _ zf8) ((zt10.trans zt11) _ _ zf9), fine_of (by decide +kernel), by decide, by decide, zf11, Lot.two (by decide) (by decide), fun zr12 zH12 zs12 znr12 zq12 => ?_⟩
      have zt12 := zs12
      rw [l1] at zq12
      have zf12 := zq12
      refine ⟨Nat.zero_le _, fun za13 zn13 => ?_⟩
      obtain ⟨zH13, ze13, zt13, zf13⟩ := gen zH12 zn13 (.lst [])
      rw [ze13]
      clear ze13
      refine ⟨one_le, fun za14 zn14 => ?_⟩
      obtain ⟨zH14, ze14, zt14, zf14⟩ := gen zH13 zn14 (.lst [.int 1])
      rw [ze14]
      clear ze14
      refine ⟨(by show 2 ≤ sizeLine; decide), fun za15 zn15 => ?_⟩
      obtain ⟨zH15, ze15, zt15, zf15⟩ := gen zH14 zn15 (.lst [.int 0, .int 1])
      rw [ze15]
      clear ze15
      refine ⟨(by show 3 ≤ sizeLine; decide), fun za16 zn16 => ?_⟩
      obtain ⟨zH16, ze16, zt16, zf16⟩ := gen zH15 zn16 (.lst [.int 0, .int 0, .int 1])
      rw [ze16]
      clear ze16
      refine ⟨(by show 4 ≤ sizeLine; decide), fun za17 zn17 => ?_⟩
      obtain ⟨zH17, ze17, zt17, zf17⟩ := gen zH16 zn17 (.lst [.ref za13, .ref za14, .ref za15, .ref za16])
      rw [ze17]
      clear ze17
      refine ⟨(by show 2 ≤ sizeLine; decide), fun za18 zn18 => ?_⟩
      obtain ⟨zH18, ze18, zt18, zf18⟩ := gen zH17 zn18 (.lst [.int 1, .int 2])
      rw [ze18]
      clear ze18
      refine ⟨2, za17, za18, [za13, za14, za15, za16], rowK, [1, 2], rfl, by decide, by decide, four_tab (show Fine 2 rowK from fine_of (by decide +kernel)) (zt18 _ _ zf17) ((zt14.trans (zt15.trans (zt16.trans (zt17.trans zt18)))) _ _ zf13) ((zt15.trans (zt16.trans (zt17.trans zt18))) _ _ zf14) ((zt16.trans (zt17.trans zt18)) _ _ zf15) ((zt17.trans zt18) _ _ zf16), fine_of (by decide +kernel), by decide, by decide, zf18, Lot.two (by decide) (by decide), fun zr19 zH19 zs19 znr19 zq19 => ?_⟩
      have zt19 := zs19
      rw [l2] at zq19
      have zf19 := zq19
      refine ⟨(by show 2 ≤ sizeLine; decide), fun za20 zn20 => ?_⟩
      obtain ⟨zH20, ze20, zt20, zf20⟩ := gen zH19 zn20 (.lst [.ref zr12, .ref zr19])
      rw [ze20]
      clear ze20
      refine ⟨_, rfl, ?_⟩
      refine ⟨Nat.zero_le _, fun za21 zn21 => ?_⟩
      obtain ⟨zH21, ze21, zt21, zf21⟩ := gen zH20 zn21 (.lst [])
      rw [ze21]
      clear ze21
      refine ⟨one_le, fun za22 zn22 => ?_⟩
      obtain ⟨zH22, ze22, zt22, zf22⟩ := gen zH21 zn22 (.lst [.ref za21])
      rw [ze22]
      clear ze22
      refine ⟨one_le, fun za23 zn23 => ?_⟩
      obtain ⟨zH23, ze23, zt23, zf23⟩ := gen zH22 zn23 (.lst [.int 0])
      rw [ze23]
      clear ze23
      refine ⟨9, za22, za23, [za21], [[]], [0], rfl, by decide, by decide, one_tab (show Fine 9 [[]] from fine_of (by decide +kernel)) (zt23 _ _ zf22) ((zt22.trans zt23) _ _ zf21), fine_of (by decide +kernel), by decide, by decide, zf23, Lot.one (by decide), fun zr24 zH24 zs24 znr24 zq24 => ?_⟩
      have zt24 := zs24
      rw [l3] at zq24
      have zf24 := zq24
      refine ⟨Nat.zero_le _, fun za25 zn25 => ?_⟩
      obtain ⟨zH25, ze25, zt25, zf25⟩ := gen zH24 zn25 (.lst [])
      rw [ze25]
      clear ze25
      refine ⟨one_le, fun za26 zn26 => ?_⟩
      obtain ⟨zH26, ze26, zt26, zf26⟩ := gen zH25 zn26 (.lst [.int 0])
      rw [ze26]
      clear ze26
      refine ⟨(by show 2 ≤ sizeLine; decide), fun za27 zn27 => ?_⟩
      obtain ⟨zH27, ze27, zt27, zf27⟩ := gen zH26 zn27 (.lst [.int 1, .int 2])
      rw [ze27]
      clear ze27
      refine ⟨(by show 3 ≤ sizeLine; decide), fun za28 zn28 => ?_⟩
      obtain ⟨zH28, ze28, zt28, zf28⟩ := gen zH27 zn28 (.lst [.ref za25, .ref za26, .ref za27])
      rw [ze28]
      clear ze28
      refine ⟨(by show 2 ≤ sizeLine; decide), fun za29 zn29 => ?_⟩
      obtain ⟨zH29, ze29, zt29, zf29⟩ := gen zH28 zn29 (.lst [.int 0, .int 1])
      rw [ze29]
      clear ze29
      refine ⟨3, za28, za29, [za25, za26, za27], triK, [0, 1], rfl, by decide, by decide, three_tab (show Fine 3 triK from fine_of (by decide +kernel)) (zt29 _ _ zf28) ((zt26.trans (zt27.trans (zt28.trans zt29))) _ _ zf25) ((zt27.trans (zt28.trans zt29)) _ _ zf26) ((zt28.trans zt29) _ _ zf27), fine_of (by decide +kernel), by decide, by decide, zf29, Lot.two (by decide) (by decide), fun zr30 zH30 zs30 znr30 zq30 => ?_⟩
      have zt30 := zs30
      rw [l4] at zq30
      have zf30 := zq30
      refine ⟨(by show 2 ≤ sizeLine; decide), fun za31 zn31 => ?_⟩
      obtain ⟨zH31, ze31, zt31, zf31⟩ := gen zH30 zn31 (.lst [.ref zr24, .ref zr30])
      rw [ze31]
      clear ze31
      refine ⟨za20, za31, _, _, rfl, rfl, ((zt21.trans (zt22.trans (zt23.trans (zt24.trans (zt25.trans (zt26.trans (zt27.trans (zt28.trans (zt29.trans (zt30.trans zt31)))))))))) _ _ zf20), zf31, (by show 2 + 2 ≤ sizeLine; decide), fun za32 zn32 => ?_⟩
      obtain ⟨zH32, ze32, zt32, zf32⟩ := gen zH31 zn32 (.lst ([.ref zr12, .ref zr19] ++ [.ref zr24, .ref zr30]))
      rw [ze32]
      clear ze32
      refine ⟨_, rfl, ?_⟩
      refine ⟨(by show 2 ≤ sizeLine; decide), fun za33 zn33 => ?_⟩
      obtain ⟨zH33, ze33, zt33, zf33⟩ := gen zH32 zn33 (.lst [.int 0, .int 2])
      rw [ze33]
      clear ze33
      refine ⟨(by show 4 ≤ sizeLine; decide), fun za34 zn34 => ?_⟩
      obtain ⟨zH34, ze34, zt34, zf34⟩ := gen zH33 zn34 (.lst [.int 0, .int 1, .int 2, .int 3])
      rw [ze34]
      clear ze34
      refine ⟨one_le, fun za35 zn35 => ?_⟩
      obtain ⟨zH35, ze35, zt35, zf35⟩ := gen zH34 zn35 (.lst [.int 0])
      rw [ze35]
      clear ze35
      refine ⟨(by show 3 ≤ sizeLine; decide), fun za36 zn36 => ?_⟩
      obtain ⟨zH36, ze36, zt36, zf36⟩ := gen zH35 zn36 (.lst [.int 0, .int 1, .int 2])
      rw [ze36]
      clear ze36
      refine ⟨(by show 4 ≤ sizeLine; decide), fun za37 zn37 => ?_⟩
      obtain ⟨zH37, ze37, zt37, zf37⟩ := gen zH36 zn37 (.lst [.ref za33, .ref za34, .ref za35, .ref za36])
      rw [ze37]
      clear ze37
      exact ⟨.ref za32, .ref za37, dataL, rfl, .lst ((zt33.trans (zt34.trans (zt35.trans (zt36.trans zt37)))) _ _ zf32) (.cons (nat_dt ((zt13.trans (zt14.trans (zt15.trans (zt16.trans (zt17.trans (zt18.trans (zt19.trans (zt20.trans (zt21.trans (zt22.trans (zt23.trans (zt24.trans (zt25.trans (zt26.trans (zt27.trans (zt28.trans (zt29.trans (zt30.trans (zt31.trans (zt32.trans (zt33.trans (zt34.trans (zt35.trans (zt36.trans zt37)))))))))))))))))))))))) _ _ zf12)) (.cons (nat_dt ((zt20.trans (zt21.trans (zt22.trans (zt23.trans (zt24.trans (zt25.trans (zt26.trans (zt27.trans (zt28.trans (zt29.trans (zt30.trans (zt31.trans (zt32.trans (zt33.trans (zt34.trans (zt35.trans (zt36.trans zt37))))))))))))))))) _ _ zf19)) (.cons (nat_dt ((zt25.trans (zt26.trans (zt27.trans (zt28.trans (zt29.trans (zt30.trans (zt31.trans (zt32.trans (zt33.trans (zt34.trans (zt35.trans (zt36.trans zt37)))))))))))) _ _ zf24)) (.cons (nat_dt ((zt31.trans (zt32.trans (zt33.trans (zt34.trans (zt35.trans (zt36.trans zt37)))))) _ _ zf30)) .nil)))), .lst zf37 (.cons (nat_dt ((zt34.trans (zt35.trans (zt36.trans zt37))) _ _ zf33)) (.cons (nat_dt ((zt35.trans (zt36.trans zt37)) _ _ zf34)) (.cons (nat_dt ((zt36.trans zt37) _ _ zf35)) (.cons (nat_dt (zt37 _ _ zf36)) .nil)))), nice_last, q _⟩
end
end K07

namespace K07
open PySem PySem.Spec PyProof.Rows L2 GL
/-- a def of the text stands under its name -/
def Has (K : PySem.W.Frag) (x : Str) (st : Stmt) : Prop := ∃ (f : Addr) (oc : Value) (od : Option Addr) (kV dc pm : Value) (an : Option Addr) (cd ct : Value) (sl : Array (Option Value)), PySem.W.nsIn K mainGlobals x = some (some (.ref f)) ∧
  K.lookup f = some ⟨oc, od, .func (PySem.W.fnOf x x (defArgs st) (defBody st) (defScope st) .none kV dc pm an cd ct), sl⟩ ∧ PySem.W.codeIn K cd x = true ∧ PySem.W.keepIn K (.ref f) = true
theorem Has.fn {K : PySem.W.Frag} {x : Str} {st : Stmt} {h : Heap} {mg : Str → Option Value} (H : Has K x st) (X : K.In h) (G : h.Ns mainGlobals mg) : ∃ (f : Addr) (fd : FuncData), Fun K x x st f fd ∧ mg x = some (.ref f) := by
  obtain ⟨f, oc, od, kV, dc, pm, an, cd, ct, sl, a, l, c, k⟩ := H
  exact ⟨f, _, fun_mk (st := st) l c k, PySem.W.mg_of X G a⟩
theorem has_mk {K : PySem.W.Frag} {x : Str} {st : Stmt} {f : Addr} {oc kV dc pm cd ct : Value} {od an : Option Addr} {sl : Array (Option Value)} (a : PySem.W.nsIn K mainGlobals x = some (some (.ref f)))
    (l : K.lookup f = some ⟨oc, od, .func (PySem.W.fnOf x x (defArgs st) (defBody st) (defScope st) .none kV dc pm an cd ct), sl⟩) (c : PySem.W.codeIn K cd x = true) (k : PySem.W.keepIn K (.ref f) = true) : Has K x st := ⟨f, oc, od, kV, dc, pm, an, cd, ct, sl, a, l, c, k⟩
/-- a written number of the text -/
def HasInt (K : PySem.W.Frag) (x : Str) (n : Int) : Prop := ∃ t, PySem.W.nsIn K mainGlobals x = some (some (.int n t))
theorem hasInt_mk {K : PySem.W.Frag} {x : Str} {n : Int} {t : Tok} (a : PySem.W.nsIn K mainGlobals x = some (some (.int n t))) : HasInt K x n := ⟨t, a⟩
def HasNot (K : PySem.W.Frag) (x : Str) : Prop := PySem.W.nsIn K mainGlobals x = some none
theorem all_mk {l : PySem.W.OpenLaw} {w : World} {K : PySem.W.Frag} {h : Heap} {mg : Str → Option Value} {fa : Addr} (X : K.In h) (G : h.Ns mainGlobals mg) (hfa : mg "law" = some (.ref fa))
    (h9 : Has K "is_whole" sWhole) (h11 : Has K "are_kinds" sKinds) (h15 : Has K "check_kinds" sCheck) (h10 : Has K "is_below" sBelow) (h12 : Has K "is_row" sRow) (h13 : Has K "is_company_of" sCompOf) (h16 : Has K "check_company" sCheckC) (h14 : Has K "is_lot" sLot) (h17 : Has K "check_lot" sCheckL) (h19 : Has K "nets_of" sNets) (h20 : Has K "bits_of" sBits) (h21 : Has K "people_of" sPeople) (h22 : Has K "grown" sGrown) (h23 : Has K "least_house" sLeast) (h27 : Has K "_law_cell" sCell) (h28 : Has K "_law_generator" sGen) (h29 : Has K "_law_same" sSame) (h33 : Has K "_law_kept" sKept) (h37 : Has K "_law_lot_right" sLotRight) (h25 : Has K "_law_hash" sHash) (h26 : Has K "_law_random" sRandom) (h30 : Has K "_law_tie" sTie) (h32 : Has K "_law_renamed" sRenamed) (h31 : Has K "_law_company" sCompany) (h34 : Has K "_law_lots" sLots) (h35 : Has K "_law_house" sHouse) (h38 : Has K "_law_right" sRight) (h36 : Has K "_law_grown" sGrownL) (h39 : Has K "_law_great_right" sGreat) (h40 : Has K "law" sLaw)
    (c0 : HasInt K "LEAST_KINDS" 2) (c1 : HasInt K "MOST_KINDS" 9) (c2 : HasInt K "MOST_PEOPLE" 40)
    (z0 : HasNot K "int") (z1 : HasNot K "len") (z2 : HasNot K "sum") (z3 : HasNot K "max") (z4 : HasNot K "min") (z5 : HasNot K "range") (z6 : HasNot K "isinstance") (z7 : HasNot K "bool") (z8 : HasNot K "list") (z9 : HasNot K "tuple") (z10 : HasNot K "all") (z11 : HasNot K "enumerate") (z12 : HasNot K "repr") (z13 : HasNot K "zip") (z14 : HasNot K "any") (z15 : HasNot K "set") (z16 : HasNot K "sorted")
    :
    ∃ fd : FuncData, (∀ (s : Shared) (v : Value), BindsTo s fd ⟨[v], []⟩ [("_law_script", v)]) ∧ ∀ base : Heap, K.In base → base.Ns mainGlobals mg → FnG l.prog w K mg base CX0 9 fa fd ["_law_script"] (spLaw K) := by
  have nn : ∀ {x : Str}, HasNot K x → mg x = none := fun z => PySem.W.mg_none_of X G z
  have T : Bi mg := ⟨nn z0, nn z1, nn z2, nn z3, nn z4, nn z5, nn z6, nn z7, nn z8, nn z9, nn z10, nn z11, nn z12, nn z13, nn z14, nn z15, nn z16⟩
  have C : Cs mg := ⟨let ⟨t, a⟩ := c0; ⟨t, PySem.W.mg_of X G a⟩, let ⟨t, a⟩ := c1; ⟨t, PySem.W.mg_of X G a⟩, let ⟨t, a⟩ := c2; ⟨t, PySem.W.mg_of X G a⟩⟩
  obtain ⟨f9, fd9, F9, g9⟩ := h9.fn X G
  obtain ⟨f11, fd11, F11, g11⟩ := h11.fn X G
  obtain ⟨f15, fd15, F15, g15⟩ := h15.fn X G
  obtain ⟨f10, fd10, F10, g10⟩ := h10.fn X G
  obtain ⟨f12, fd12, F12, g12⟩ := h12.fn X G
  obtain ⟨f13, fd13, F13, g13⟩ := h13.fn X G
  obtain ⟨f16, fd16, F16, g16⟩ := h16.fn X G
  obtain ⟨f14, fd14, F14, g14⟩ := h14.fn X G
  obtain ⟨f17, fd17, F17, g17⟩ := h17.fn X G
  obtain ⟨f19, fd19, F19, g19⟩ := h19.fn X G
  obtain ⟨f20, fd20, F20, g20⟩ := h20.fn X G
  obtain ⟨f21, fd21, F21, g21⟩ := h21.fn X G
  obtain ⟨f22, fd22, F22, g22⟩ := h22.fn X G
  obtain ⟨f23, fd23, F23, g23⟩ := h23.fn X G
  obtain ⟨f27, fd27, F27, g27⟩ := h27.fn X G
  obtain ⟨f28, fd28, F28, g28⟩ := h28.fn X G
  obtain ⟨f29, fd29, F29, g29⟩ := h29.fn X G
  obtain ⟨f33, fd33, F33, g33⟩ := h33.fn X G
  obtain ⟨f37, fd37, F37, g37⟩ := h37.fn X G
  obtain ⟨f25, fd25, F25, g25⟩ := h25.fn X G
  obtain ⟨f26, fd26, F26, g26⟩ := h26.fn X G
  obtain ⟨f30, fd30, F30, g30⟩ := h30.fn X G
  obtain ⟨f32, fd32, F32, g32⟩ := h32.fn X G
  obtain ⟨f31, fd31, F31, g31⟩ := h31.fn X G
  obtain ⟨f34, fd34, F34, g34⟩ := h34.fn X G
  obtain ⟨f35, fd35, F35, g35⟩ := h35.fn X G
  obtain ⟨f38, fd38, F38, g38⟩ := h38.fn X G
  obtain ⟨f36, fd36, F36, g36⟩ := h36.fn X G
  obtain ⟨f39, fd39, F39, g39⟩ := h39.fn X G
  have b9 := F9.binds (ps := ["value"]) fun _ _ _ _ _ _ us hl => match us, hl with | [_], _ => rfl
  have b11 := F11.binds (ps := ["value"]) fun _ _ _ _ _ _ us hl => match us, hl with | [_], _ => rfl
  have b15 := F15.binds (ps := ["kinds"]) fun _ _ _ _ _ _ us hl => match us, hl with | [_], _ => rfl
  have b10 := F10.binds (ps := ["value", "bound"]) fun _ _ _ _ _ _ us hl => match us, hl with | [_, _], _ => rfl
  have b12 := F12.binds (ps := ["kinds", "many", "value"]) fun _ _ _ _ _ _ us hl => match us, hl with | [_, _, _], _ => rfl
  have b13 := F13.binds (ps := ["kinds", "value"]) fun _ _ _ _ _ _ us hl => match us, hl with | [_, _], _ => rfl
  have b16 := F16.binds (ps := ["kinds", "company"]) fun _ _ _ _ _ _ us hl => match us, hl with | [_, _], _ => rfl
  have b14 := F14.binds (ps := ["many", "value"]) fun _ _ _ _ _ _ us hl => match us, hl with | [_, _], _ => rfl
  have b17 := F17.binds (ps := ["company", "lot"]) fun _ _ _ _ _ _ us hl => match us, hl with | [_, _], _ => rfl
  have b19 := F19.binds (ps := ["company"]) fun _ _ _ _ _ _ us hl => match us, hl with | [_], _ => rfl
  have b20 := F20.binds (ps := ["people"]) fun _ _ _ _ _ _ us hl => match us, hl with | [_], _ => rfl
  have b21 := F21.binds (ps := ["bits", "people"]) fun _ _ _ _ _ _ us hl => match us, hl with | [_, _], _ => rfl
  have b22 := F22.binds (ps := ["nets", "held", "whole"]) fun _ _ _ _ _ _ us hl => match us, hl with | [_, _, _], _ => rfl
  have b23 := F23.binds (ps := ["kinds", "company", "lot"]) fun _ _ _ _ _ _ us hl => match us, hl with | [_, _, _], _ => rfl
  have b27 := F27.binds (ps := ["_law_script", "_law_index"]) fun _ _ _ _ _ _ us hl => match us, hl with | [_, _], _ => rfl
  have b28 := F28.binds (ps := ["_law_script", "_law_index"]) fun _ _ _ _ _ _ us hl => match us, hl with | [_, _], _ => rfl
  have b29 := F29.binds (ps := ["_law_told", "_law_due"]) fun _ _ _ _ _ _ us hl => match us, hl with | [_, _], _ => rfl
  have b33 := F33.binds (ps := ["_law_company_here"]) fun _ _ _ _ _ _ us hl => match us, hl with | [_], _ => rfl
  have b37 := F37.binds (ps := ["_law_kinds", "_law_company_here", "_law_lot", "_law_due"]) fun _ _ _ _ _ _ us hl => match us, hl with | [_, _, _, _], _ => rfl
  have b25 := F25.binds (ps := ["_law_seed", "_law_index"]) fun _ _ _ _ _ _ us hl => match us, hl with | [_, _], _ => rfl
  have b26 := F26.binds (ps := ["_law_generator_here", "_law_bound"]) fun _ _ _ _ _ _ us hl => match us, hl with | [_, _], _ => rfl
  have b30 := F30.binds (ps := ["_law_company_here", "_law_one", "_law_other"]) fun _ _ _ _ _ _ us hl => match us, hl with | [_, _, _], _ => rfl
  have b32 := F32.binds (ps := ["_law_generator_here", "_law_company_here"]) fun _ _ _ _ _ _ us hl => match us, hl with | [_, _], _ => rfl
  have b31 := F31.binds (ps := ["_law_generator_here", "_law_kinds", "_law_most"]) fun _ _ _ _ _ _ us hl => match us, hl with | [_, _, _], _ => rfl
  have b34 := F34.binds (ps := ["_law_size"]) fun _ _ _ _ _ _ us hl => match us, hl with | [_], _ => rfl
  have b35 := F35.binds (ps := ["_law_company_here", "_law_lot"]) fun _ _ _ _ _ _ us hl => match us, hl with | [_, _], _ => rfl
  have b38 := F38.binds (ps := ["_law_generator_here"]) fun _ _ _ _ _ _ us hl => match us, hl with | [_], _ => rfl
  have b36 := F36.binds (ps := ["_law_company_here", "_law_lot"]) fun _ _ _ _ _ _ us hl => match us, hl with | [_, _], _ => rfl
  have b39 := F39.binds (ps := ["_law_generator_here"]) fun _ _ _ _ _ _ us hl => match us, hl with | [_], _ => rfl
  have kw0 : KBinds K fd23 ["kinds", "company", "lot"] ["lot", "company", "kinds"] gQ210 gQV210 := by
    obtain ⟨oc, od, kV, doc, pm, an, cdv, ct, osl, rfl, lk, hcd⟩ := F23.ex
    refine ⟨fun s us ws _ hl => ?_, fun a b => gQ210_rel a b⟩
    match us, ws, hl with
    | [], [v0, v1, v2], _ => exact .of_eq rfl
  obtain ⟨fl, oc, od, kV, dc, pm, an, cd, ct, sl, al, ll, cl, kl⟩ := h40
  have e := hfa.symm.trans (PySem.W.mg_of X G al)
  cases e
  refine ⟨PySem.W.fnOf "law" "law" (defArgs sLaw) (defBody sLaw) (defScope sLaw) .none kV dc pm an cd ct, fun s v => .of_eq rfl, fun base _ _ => ?_⟩
  have U9 : Use l.prog w K mg base "is_whole" ["value"] (spWhole K) 1 := ⟨f9, fd9, ok_whole F9 T, g9, F9.kp, b9⟩
  have U11 : Use l.prog w K mg base "are_kinds" ["value"] (spKinds K) 2 := ⟨f11, fd11, ok_kinds F11 C U9, g11, F11.kp, b11⟩
  have U15 : Use l.prog w K mg base "check_kinds" ["kinds"] spCheck 3 := ⟨f15, fd15, ok_check F15 U11, g15, F15.kp, b15⟩
  have U10 : Use l.prog w K mg base "is_below" ["value", "bound"] (spBelow K) 2 := ⟨f10, fd10, ok_below F10 U9, g10, F10.kp, b10⟩
  have U12 : Use l.prog w K mg base "is_row" ["kinds", "many", "value"] (spRow K) 3 := ⟨f12, fd12, ok_row F12 T U10, g12, F12.kp, b12⟩
  have U13 : Use l.prog w K mg base "is_company_of" ["kinds", "value"] (spCompOf K) 4 := ⟨f13, fd13, ok_compOf F13 T C U12, g13, F13.kp, b13⟩
  have U16 : Use l.prog w K mg base "check_company" ["kinds", "company"] (spCheckC K) 5 := ⟨f16, fd16, ok_checkC F16 U15 U13, g16, F16.kp, b16⟩
  have U14 : Use l.prog w K mg base "is_lot" ["many", "value"] (spLot K) 3 := ⟨f14, fd14, ok_lot F14 T U10, g14, F14.kp, b14⟩
  have U17 : Use l.prog w K mg base "check_lot" ["company", "lot"] spCheckL 4 := ⟨f17, fd17, ok_checkL F17 T U14, g17, F17.kp, b17⟩
  have U19 : Use l.prog w K mg base "nets_of" ["company"] spNets 1 := ⟨f19, fd19, ok_nets F19 T, g19, F19.kp, b19⟩
  have U20 : Use l.prog w K mg base "bits_of" ["people"] spBits 1 := ⟨f20, fd20, ok_bits F20 T, g20, F20.kp, b20⟩
  have U21 : Use l.prog w K mg base "people_of" ["bits", "people"] spPeople 1 := ⟨f21, fd21, ok_people F21 T, g21, F21.kp, b21⟩
  have U22 : Use l.prog w K mg base "grown" ["nets", "held", "whole"] spGrown 1 := ⟨f22, fd22, ok_grown F22 T, g22, F22.kp, b22⟩
  have U23 : Use l.prog w K mg base "least_house" ["kinds", "company", "lot"] spLeast 6 := ⟨f23, fd23, ok_least F23 T U16 U17 U19 U20 U21 U22, g23, F23.kp, b23⟩
  have KW0 : UseK l.prog w K mg base "least_house" ["kinds", "company", "lot"] ["lot", "company", "kinds"] gQ210 gQV210 spLeast 6 := ⟨f23, fd23, ok_least F23 T U16 U17 U19 U20 U21 U22, g23, F23.kp, kw0⟩
  have U27 : Use l.prog w K mg base "_law_cell" ["_law_script", "_law_index"] (spCell K) 1 := ⟨f27, fd27, ok_cell F27 T, g27, F27.kp, b27⟩
  have U28 : Use l.prog w K mg base "_law_generator" ["_law_script", "_law_index"] (spGen K) 2 := ⟨f28, fd28, ok_gen F28 T U27, g28, F28.kp, b28⟩
  have U29 : UseG l.prog w K mg base "_law_same" ["_law_told", "_law_due"] (spSame K) 1 := ⟨f29, fd29, ok_same F29 T, g29, F29.kp, b29⟩
  have U33 : Use l.prog w K mg base "_law_kept" ["_law_company_here"] spKept 1 := ⟨f33, fd33, ok_kept F33 T, g33, F33.kp, b33⟩
  have U37 : UseG l.prog w K mg base "_law_lot_right" ["_law_kinds", "_law_company_here", "_law_lot", "_law_due"] spLotRight 7 := ⟨f37, fd37, ok_lotRight F37 T U23 KW0 U29 U33, g37, F37.kp, b37⟩
  have U25 : Use l.prog w K mg base "_law_hash" ["_law_seed", "_law_index"] spHash 1 := ⟨f25, fd25, ok_hash F25 T, g25, F25.kp, b25⟩
  have U26 : Use l.prog w K mg base "_law_random" ["_law_generator_here", "_law_bound"] spRandom 2 := ⟨f26, fd26, ok_random F26 T U25, g26, F26.kp, b26⟩
  have U30 : Use l.prog w K mg base "_law_tie" ["_law_company_here", "_law_one", "_law_other"] spTie 1 := ⟨f30, fd30, ok_tie F30 T, g30, F30.kp, b30⟩
  have U32 : Use l.prog w K mg base "_law_renamed" ["_law_generator_here", "_law_company_here"] spRenamed 3 := ⟨f32, fd32, ok_renamed F32 T U26 U30, g32, F32.kp, b32⟩
  have U31 : Use l.prog w K mg base "_law_company" ["_law_generator_here", "_law_kinds", "_law_most"] spCompany 4 := ⟨f31, fd31, ok_company F31 T U26 U30 U32, g31, F31.kp, b31⟩
  have U34 : Use l.prog w K mg base "_law_lots" ["_law_size"] spLots 1 := ⟨f34, fd34, ok_lots F34 T, g34, F34.kp, b34⟩
  have U35 : Use l.prog w K mg base "_law_house" ["_law_company_here", "_law_lot"] spHouse 2 := ⟨f35, fd35, ok_house F35 T U30, g35, F35.kp, b35⟩
  have U38 : UseG l.prog w K mg base "_law_right" ["_law_generator_here"] spRight 8 := ⟨f38, fd38, ok_right F38 T U26 U31 U34 U35 U37, g38, F38.kp, b38⟩
  have U36 : Use l.prog w K mg base "_law_grown" ["_law_company_here", "_law_lot"] spGrownL 2 := ⟨f36, fd36, ok_grownL F36 T U30, g36, F36.kp, b36⟩
  have U39 : UseG l.prog w K mg base "_law_great_right" ["_law_generator_here"] spGreat 8 := ⟨f39, fd39, ok_great F39 T U26 U31 U36 U37, g39, F39.kp, b39⟩
  exact ok_law (fun_mk (st := sLaw) ll cl kl) T U23 U28 U29 U37 U38 U39
end K07
open PySem PySem.W PyProof.Rows
set_option maxRecDepth 100000 in
set_option maxHeartbeats 0 in
theorem PySem.Challenge.cw_twinties_k07_whole_least_houses_holds : PySem.Challenge.rw_twinties_k07_whole_least_houses.Holds := by
  w_on; o_law; k_head; (case hw => w_witness2)
  k_fill
  refine GL.walk_ofG (l := PySem.Challenge.rw_twinties_k07_whole_least_houses) (n := 63) (k := 9) (x := "_law_script") (sp := K07.spLaw) rfl (by decide) rfl ⟨rfl, by decide, by decide⟩ (fun w h Y => PySem.W.kIn_of Y) ?F (fun K H a ns hl _ hS => ⟨a, ns, rfl, hS, fun _ => rfl⟩)
  case F =>
    intro w mg fa h KX G hmg
    refine' K07.all_mk KX G hmg ?h9 ?h11 ?h15 ?h10 ?h12 ?h13 ?h16 ?h14 ?h17 ?h19 ?h20 ?h21 ?h22 ?h23 ?h27 ?h28 ?h29 ?h33 ?h37 ?h25 ?h26 ?h30 ?h32 ?h31 ?h34 ?h35 ?h38 ?h36 ?h39 ?h40 ?c0 ?c1 ?c2 ?z0 ?z1 ?z2 ?z3 ?z4 ?z5 ?z6 ?z7 ?z8 ?z9 ?z10 ?z11 ?z12 ?z13 ?z14 ?z15 ?z16
    (case h9 => refine' K07.has_mk ?a ?l ?c ?k; (case a => k_is); (case l => k_is); (case c => k_is); (case k => k_is))
    (case h11 => refine' K07.has_mk ?a ?l ?c ?k; (case a => k_is); (case l => k_is); (case c => k_is); (case k => k_is))
    (case h15 => refine' K07.has_mk ?a ?l ?c ?k; (case a => k_is); (case l => k_is); (case c => k_is); (case k => k_is))
    (case h10 => refine' K07.has_mk ?a ?l ?c ?k; (case a => k_is); (case l => k_is); (case c => k_is); (case k => k_is))
    (case h12 => refine' K07.has_mk ?a ?l ?c ?k; (case a => k_is); (case l => k_is); (case c => k_is); (case k => k_is))
    (case h13 => refine' K07.has_mk ?a ?l ?c ?k; (case a => k_is); (case l => k_is); (case c => k_is); (case k => k_is))
    (case h16 => refine' K07.has_mk ?a ?l ?c ?k; (case a => k_is); (case l => k_is); (case c => k_is); (case k => k_is))
    (case h14 => refine' K07.has_mk ?a ?l ?c ?k; (case a => k_is); (case l => k_is); (case c => k_is); (case k => k_is))
    (case h17 => refine' K07.has_mk ?a ?l ?c ?k; (case a => k_is); (case l => k_is); (case c => k_is); (case k => k_is))
    (case h19 => refine' K07.has_mk ?a ?l ?c ?k; (case a => k_is); (case l => k_is); (case c => k_is); (case k => k_is))
    (case h20 => refine' K07.has_mk ?a ?l ?c ?k; (case a => k_is); (case l => k_is); (case c => k_is); (case k => k_is))
    (case h21 => refine' K07.has_mk ?a ?l ?c ?k; (case a => k_is); (case l => k_is); (case c => k_is); (case k => k_is))
    (case h22 => refine' K07.has_mk ?a ?l ?c ?k; (case a => k_is); (case l => k_is); (case c => k_is); (case k => k_is))
    (case h23 => refine' K07.has_mk ?a ?l ?c ?k; (case a => k_is); (case l => k_is); (case c => k_is); (case k => k_is))
    (case h27 => refine' K07.has_mk ?a ?l ?c ?k; (case a => k_is); (case l => k_is); (case c => k_is); (case k => k_is))
    (case h28 => refine' K07.has_mk ?a ?l ?c ?k; (case a => k_is); (case l => k_is); (case c => k_is); (case k => k_is))
    (case h29 => refine' K07.has_mk ?a ?l ?c ?k; (case a => k_is); (case l => k_is); (case c => k_is); (case k => k_is))
    (case h33 => refine' K07.has_mk ?a ?l ?c ?k; (case a => k_is); (case l => k_is); (case c => k_is); (case k => k_is))
    (case h37 => refine' K07.has_mk ?a ?l ?c ?k; (case a => k_is); (case l => k_is); (case c => k_is); (case k => k_is))
    (case h25 => refine' K07.has_mk ?a ?l ?c ?k; (case a => k_is); (case l => k_is); (case c => k_is); (case k => k_is))
    (case h26 => refine' K07.has_mk ?a ?l ?c ?k; (case a => k_is); (case l => k_is); (case c => k_is); (case k => k_is))
    (case h30 => refine' K07.has_mk ?a ?l ?c ?k; (case a => k_is); (case l => k_is); (case c => k_is); (case k => k_is))
    (case h32 => refine' K07.has_mk ?a ?l ?c ?k; (case a => k_is); (case l => k_is); (case c => k_is); (case k => k_is))
    (case h31 => refine' K07.has_mk ?a ?l ?c ?k; (case a => k_is); (case l => k_is); (case c => k_is); (case k => k_is))
    (case h34 => refine' K07.has_mk ?a ?l ?c ?k; (case a => k_is); (case l => k_is); (case c => k_is); (case k => k_is))
    (case h35 => refine' K07.has_mk ?a ?l ?c ?k; (case a => k_is); (case l => k_is); (case c => k_is); (case k => k_is))
    (case h38 => refine' K07.has_mk ?a ?l ?c ?k; (case a => k_is); (case l => k_is); (case c => k_is); (case k => k_is))
    (case h36 => refine' K07.has_mk ?a ?l ?c ?k; (case a => k_is); (case l => k_is); (case c => k_is); (case k => k_is))
    (case h39 => refine' K07.has_mk ?a ?l ?c ?k; (case a => k_is); (case l => k_is); (case c => k_is); (case k => k_is))
    (case h40 => refine' K07.has_mk ?a ?l ?c ?k; (case a => k_is); (case l => k_is); (case c => k_is); (case k => k_is))
    (case c0 => refine' K07.hasInt_mk ?a; (case a => k_is))
    (case c1 => refine' K07.hasInt_mk ?a; (case a => k_is))
    (case c2 => refine' K07.hasInt_mk ?a; (case a => k_is))
    (case z0 => (show PySem.W.nsIn _ mainGlobals _ = some none); k_is)
    (case z1 => (show PySem.W.nsIn _ mainGlobals _ = some none); k_is)
    (case z2 => (show PySem.W.nsIn _ mainGlobals _ = some none); k_is)
    (case z3 => (show PySem.W.nsIn _ mainGlobals _ = some none); k_is)
    (case z4 => (show PySem.W.nsIn _ mainGlobals _ = some none); k_is)
    (case z5 => (show PySem.W.nsIn _ mainGlobals _ = some none); k_is)
    (case z6 => (show PySem.W.nsIn _ mainGlobals _ = some none); k_is)
    (case z7 => (show PySem.W.nsIn _ mainGlobals _ = some none); k_is)
    (case z8 => (show PySem.W.nsIn _ mainGlobals _ = some none); k_is)
    (case z9 => (show PySem.W.nsIn _ mainGlobals _ = some none); k_is)
    (case z10 => (show PySem.W.nsIn _ mainGlobals _ = some none); k_is)
    (case z11 => (show PySem.W.nsIn _ mainGlobals _ = some none); k_is)
    (case z12 => (show PySem.W.nsIn _ mainGlobals _ = some none); k_is)
    (case z13 => (show PySem.W.nsIn _ mainGlobals _ = some none); k_is)
    (case z14 => (show PySem.W.nsIn _ mainGlobals _ = some none); k_is)
    (case z15 => (show PySem.W.nsIn _ mainGlobals _ = some none); k_is)
    (case z16 => (show PySem.W.nsIn _ mainGlobals _ = some none); k_is)

