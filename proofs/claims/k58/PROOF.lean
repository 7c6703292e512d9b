
import PyProof.Rows.All
import Wide.All
import OpenK.AllK
import Wide.FinOn
import PyProof.ReprRoads
import HandS.ForMost
import HandS.IsInst
import HandS.Wide
import HandS.WideBits
import HandS.Conv
import HandS.Style
import HandS.Flow
import HandS.Walk
import HandS.Zip
import HandS.Deep
import KE.SortData
import KE.OsSetLaws
import HandS.RepeatKit
import HandS.Sort
import HandS.NoneIn
import HandS.SortInts
import HandS.TryOnly
import KE.OsSort
import HandS.Text
import HandS.DictComp
import HandS.SortRule
import KE.KSortKeyAny
import HandS.SortKw
import HandS.SetFor
import HandS.Strs
import HandS.SetBool
import HandS.ExcValue
import HandS.ExcIs
import HandS.ExcField
import HandS.ExcInit
import KE.KExcIs
import HandS.Defaults
import HandS.WordsExc
import KE.KMathG
import HandS.Gcd
import HandS.Lambda
import HandS.EndTab
import KE.KNestM
import KE.KDictDisplayH
import HandS.Iter
import KE.GoesMore
import KE.KDictKeyed
import KE.KeyNested
import HandS.DictTup
import KE.GoesEnum
import KE.GoesNew
import KE.KEqDict
import KE.DataMinMax
import PyProof.Rows.RowBridgeK
import PySem.Challenge.RW_twinties_k58_whole_joined_leagues_by_fou
set_option Elab.async false
set_option linter.all false
set_option maxRecDepth 100000
set_option maxHeartbeats 4000000
/-! Defs whose promise is told where no guard of a repr stands around: a def that asks repr of a list holds its promise there alone. -/
namespace GL
open PySem PySem.Spec PyProof.Rows L2

/-- a def's promise, told of calls around which no repr is under way -/
structure FnG (P : Program) (w : World) (K : PySem.W.Frag) (mg : Str → Option Value) (base : Heap) (CX : CXT) (k : Nat) (f : Addr) (fd : FuncData) (ps : List Str) (sp : Sp) : Prop where
  many : ∀ vs H Q E, sp vs H Q E → vs.length = ps.length
  goes : ∀ (A : Around) (outer : List Env) (s : Shared) (H : Hp) (args : Args) (us : List Value) (vs : List V) (Q : VK) (E : XK), A.guards = some [] → Room k A →
    Env0 P w K mg base A outer s H → BindsTo s fd args (ps.zip us) → Vals vs us → sp vs H Q E → codeAny (model P w) A (.call (.ref f) args) (CR CX outer P w H s Q E) s

section
variable {P : Program} {w : World} {K : PySem.W.Frag} {mg : Str → Option Value} {base : Heap} {CX : CXT} {k : Nat} {f : Addr} {fd : FuncData} {ps : List Str} {sp : Sp}
end

section
variable {P : Program} {w : World} {K : PySem.W.Frag} {mg : Str → Option Value} {base : Heap}
/-- the body's walk gives the promise -/
theorem FnG.mk' {x qual : Str} {st : Stmt} {f : Addr} {fd : FuncData} {N ps : List Str} {k : Nat} {sp : Sp} (F : Fun K x qual st f fd) (S : FnScope N ps (defScope st)) (many : ∀ vs H Q E, sp vs H Q E → vs.length = ps.length)
    (walk : ∀ (cdv : Value) (A : Around) (outer : List Env) (s : Shared) (H : Hp) (vs : List V) (Q : VK) (E : XK), A.guards = some [] → Room k (A.deeper (envOfC qual (defScope st) s.heap.objs.size f cdv)) → sp vs H Q E →
      ∃ t, PSs (cxOf CX0 P w K mg base N qual (defScope st) f cdv A outer s H E).nox (defBody st) t ∧ t { nx := fun _ H' => Q .non H', rt := Q } (start N vs) H) : FnG P w K mg base CX0 (k + 1) f fd ps sp := by
  obtain ⟨oc, od, kV, doc, pm, an, cdv, ct, osl, efd, lk, hcd⟩ := F.ex
  subst efd
  refine ⟨many, ?_⟩
  intro A outer s H args us vs Q E hg hr e0 hb rv hsp
  have cnt := many _ _ _ _ hsp
  have up : ∀ b o, base.get? b = some o → s.heap.get? b = some o := fun b o e => (e0.bs b o e).1
  have inK : K.In s.heap := e0.mod.kin.keeps up
  have kinds : ∀ y ∈ ps.zip us, (defScope st).names.lookup y.1 = some .local ∨ ((defScope st).names.lookup y.1 = some .cell ∧ ((cellsFrom (s.heap.objs.size + 1) (defScope st).names []).lookup y.1).isSome = true) := by
    rintro ⟨n, v⟩ hy
    exact (S.par n (List.of_mem_zip hy).1).elim (fun q => .inl q) fun q => .inr ⟨q, PySem.W.cellsFrom_some _ _ _ (.inl q)⟩
  refine codeAny_call_function hr.depth (inK _ _ lk) rfl S.co S.gen rfl (PySem.W.codeRec_of inK hcd) (hb _ _ _ _ (wpAny_newFunctionEnv_cells S.kind kinds fun env he s1 x => ?_))
  subst he
  refine ⟨(e0.mod.nolimit.keeps up).keeps x.toInCall.keep, codeAny_func ?_⟩
  obtain ⟨t, ht, hq⟩ := walk cdv A outer s H vs Q E hg (hr.deeper _) hsp
  refine wpAny_mono (ht.nox.run [] s1 (start N vs) H _ (inv_start S hr.hd e0 cnt rv x) hq) (fun fl s' hs => ?_) fun e s' hs => hs
  cases fl with
  | next => exact let ⟨σ', H', J, q⟩ := hs; ⟨V.non, H', J.os, J.bare, J.base, J.hok, rfl, q⟩
  | ret u => exact let ⟨v, σ', H', J, rr, q⟩ := hs; ⟨v, H', J.os, J.bare, J.base, J.hok, rr, q⟩
  | brk => obtain ⟨σ', H', J, q⟩ := hs; exact q.elim
  | cont => obtain ⟨σ', H', J, q⟩ := hs; exact q.elim
end
end GL

namespace GL
open PySem PySem.Spec PyProof.Rows L2
open L2 (Room)
/-! ### a call of such a def from a body around which no guard stands -/
section
variable {X : Cx} {CX : CXT} {k : Nat} {f : Addr} {fd : FuncData} {ps : List Str} {sp : Sp} {ds : List Value} {dvs : List V} {E : XK} {x : Str} {e : Expr} {es : List Expr} {t : TA} {p pos : Pos}
theorem FnG.used {pins : List (Addr × Obj)} {σ : L2.St} {H : Hp} {s : Shared} {Q : VK} {us : List Value} {vs : List V} (F : FnG X.prog X.w X.K X.mg X.base CX k f fd ps sp) (hg : X.A.guards = some []) (hr : Room k X.A) (hb : Binds X.K fd ps ds)
    (hd : Vals dvs ds) (hx : Passes CX X E) (I : Inv X pins σ H s) (r : Vals vs us) (h : sp (vs ++ dvs) H Q E) : wpAny (model X.prog X.w) X.A (call (.ref f) us) (EP X pins σ Q) X.xe s := by
  have both : Vals (vs ++ dvs) (us ++ ds) := r.append hd
  have cnt : (us ++ ds).length = ps.length := (both.length).symm.trans (F.many _ _ _ _ h)
  refine wpAny_call (codeAny_mono (F.goes X.A X.stack s H ⟨us, []⟩ (us ++ ds) (vs ++ dvs) Q E hg hr I.env0 (hb s us I.kIn cnt) both h) ?_)
  rintro (er | fl) s' q
  · exact hx pins σ H s er s' I q
  · match fl, q with
    | .ret u, q => exact I.after q
theorem pe_callG (F : FnG X.prog X.w X.K X.mg X.base CX k f fd ps sp) (hgd : X.A.guards = some []) (hr : Room k X.A) (hg : Gl X x) (hm : X.mg x = some (.ref f)) (hk : PySem.W.keepIn X.K (.ref f) = true) (hb : Binds X.K fd ps ds) (hd : Vals dvs ds) (hx : Passes CX X E)
    (ha : PA X (e :: es) t) (hdb : (x == ("__debug__" : Str)) = false := by decide) (he : starEach (e :: es) X.env = (false, eval e X.env) :: starEach es X.env := by rfl) (hpl : (backTo pos (starEach es X.env)).any (·.1) = false := by rfl) :
    PE X (.Call (.Name x p) (e :: es) [] pos) (tCall sp dvs E t) :=
  ⟨fun pins s σ H Q I h => wpAny_Call_Name_kw (ld_glob I hg hm (PySem.W.callWith_K (h₀ := X.base) I.ok.mod.kin hk (thn (ha.run pos pins s σ H _ I h) fun us s1 hh => by
    obtain ⟨vs, H1, I1, r, q⟩ := hh
    exact ⟨I1.kIn, F.used hgd hr hb hd hx I1 r q⟩) he hpl) hdb)⟩
end
/-! ### the end -/
theorem law_callG {P : Program} {w : World} {K : PySem.W.Frag} {mg mb : Str → Option Value} {k : Nat} {fa a : Addr} {fd : FuncData} {x : Str} {sp : Sp} {s₁ : Shared} {vs : List Value} {ns : List Int}
    (KX : K.In s₁.heap) (hns : s₁.heap.Ns mainGlobals mg) (hb : s₁.heap.Ns builtinsNs mb) (hbb : ∀ x : Str, x ≠ "__name__" → mb x = bootBuiltins x) (hlim : s₁.heap.NoLimit) (hgen : s₁.gens = #[])
    (ha : s₁.heap.get? a = some { cls := .type "list", data := .seq vs.toArray }) (hi : IntsAre vs ns) (hl : ns.length ≤ sizeLine) (hr : Room k callerA)
    (F : ∀ base : Heap, K.In base → base.Ns mainGlobals mg → FnG P w K mg base CX0 k fa fd [x] sp) (hbind : ∀ (s : Shared) (u : Value), BindsTo s fd ⟨[u], []⟩ [(x, u)])
    (hsp : ∀ H : Hp, Only H → SqL K H a (ns.map V.int) → sp [.ref a] H (fun v _ => v = .bl true) fun _ _ _ => False) :
    codeAny (model P w) callerA (.call (.ref fa) ⟨[.ref a], []⟩) (fun r s' => r = .ok (.ret (.bool true)) ∧ OldK s₁.heap s'.heap ∧ s'.os = s₁.os ∧ AllBare s'.gens) s₁ := by
  have vals := vals_ints hi
  have cnt := hi.length
  -- whichever heap of tracked things holds the script alone
  suffices main : ∀ H : Hp, Only H → SqL K H a (ns.map V.int) → HOk P w H s₁.heap → (∀ b, H b ≠ none → b = a ∧ K.lookup a = none) →
      codeAny (model P w) callerA (.call (.ref fa) ⟨[.ref a], []⟩) (fun r s' => r = .ok (.ret (.bool true)) ∧ OldK s₁.heap s'.heap ∧ s'.os = s₁.os ∧ AllBare s'.gens) s₁ by
    by_cases hk : ∃ o, K.lookup a = some o
    · obtain ⟨o, hk⟩ := hk
      have eo : o = { cls := .type "list", data := .seq vs.toArray } := Option.some.inj ((KX a o hk).symm.trans ha)
      subst eo
      exact main (fun _ => none) (fun _ => Or.inl rfl) (Or.inr ⟨_, vs.toArray, _, hk, rfl, rfl, rfl, by rw [List.size_toArray, cnt]; exact hl, by simpa using vals⟩) (fun b u z => nomatch (show (none : Option HO) = some u from z)) fun b z => (z rfl).elim
    · have hk0 : K.lookup a = none := by
        cases q : K.lookup a with
        | none => rfl
        | some o => exact (hk ⟨o, q⟩).elim
      refine main (fun b => if b = a then some (.frz { cls := .type "list", data := .seq vs.toArray } (.lst (ns.map V.int))) else none) ?_ (Or.inl (Or.inr ⟨_, if_pos rfl⟩)) ?_ ?_
      · intro b
        by_cases e : b = a
        · exact Or.inr ⟨_, _, if_pos e⟩
        · exact Or.inl (if_neg e)
      · intro b u z
        by_cases e : b = a
        · subst e
          have z' := Option.some.inj ((if_pos rfl).symm.trans z)
          subst z'
          exact ⟨ha, by rw [List.length_map]; exact hl, vs, _, vals, ha⟩
        · exact nomatch ((if_neg e).symm.trans z : (none : Option HO) = some u)
      · intro b z
        by_cases e : b = a
        · exact ⟨e, hk0⟩
        · exact (z (if_neg e)).elim
  intro H hO hS hok hA
  have free : ∀ {b : Addr} {o : Obj} {es : Array DictEntry} {ep : Nat}, s₁.heap.get? b = some o → o.data = .dict es ep → H b = none := by
    intro b o es ep e d
    cases q : H b with
    | none => rfl
    | some u =>
      have eb := (hA b (by rw [q]; exact fun z => nomatch z)).1
      subst eb
      have eo := Option.some.inj (ha.symm.trans e)
      subst eo
      exact nomatch (show Data.seq vs.toArray _ = Data.dict es ep from d)
  have space : ∀ {b : Addr} {m : Str → Option Value}, s₁.heap.Ns b m → (hidT s₁.heap H).Ns b m := by
    rintro b m ⟨o, es, ep, e, d, r⟩
    exact ⟨o, es, ep, hidT_get e (free e d), d, r⟩
  have inB : K.In (hidT s₁.heap H) := by
    intro b o e
    refine hidT_get (KX b o e) ?_
    cases q : H b with
    | none => rfl
    | some u =>
      obtain ⟨eb, n⟩ := hA b (by rw [q]; exact fun z => nomatch z)
      subst eb
      exact nomatch (n.symm.trans e)
  have md : Mod K mg (hidT s₁.heap H) := ⟨inB, space hns, ⟨mb, space hb, hbb⟩, by obtain ⟨mc, h1, h2⟩ := hlim; exact ⟨mc, space h1, h2⟩⟩
  have en : Env0 P w K mg (hidT s₁.heap H) callerA [] s₁ H :=
    { frames := rfl, mod := md, bs := fun b o e => of_hidT e, bsz := Nat.le_of_eq (hidT_size _ _), funs := trivial, frf := fun b z => (List.not_mem_nil z).elim, hok := hok, bare := .of_eq hgen }
  refine codeAny_mono ((F _ inB (space hns)).goes callerA [] s₁ H ⟨[.ref a], []⟩ [.ref a] [.ref a] _ _ rfl hr en (hbind s₁ (.ref a)) (.cons rfl .nil) (hsp H hO hS)) ?_
  rintro (er | fl) s' h
  · exact (show False from h).elim
  · match fl, h with
    | .ret u, h =>
      obtain ⟨v, H', os, bare, un, hok', rr, q⟩ := h
      have ev : v = .bl true := q
      subst ev
      have eu : u = Value.bool true := rr
      subst eu
      refine ⟨rfl, OldK.of_keep ?_, os, bare⟩
      intro b o e
      rcases hO b with z | ⟨ob, xs, z⟩
      · exact un.keep b o e z (fun z => (List.not_mem_nil z).elim) (fun z => (List.not_mem_nil z).elim)
      · have e1 := (hok b _ z).1
        have e2 := (hok' b _ (un.frzs b ob _ z)).1
        exact e2.trans (e1.symm.trans e)
theorem walk_ofG {l : PySem.W.OpenLaw} {n k : Nat} {q : Program} {loose : List Str} {XP : (Str → Option Value) → Heap → Prop} {YP : World → Heap → Prop} {d : DefRec} {K : Params → PySem.W.Frag} {sp : PySem.W.Frag → Sp} {x : Str}
    (hn : l.most = some n) (hn2 : n ≤ sizeLine) (hdf : d.params.defaults = []) (hr : Room k callerA) (hY : ∀ (w : World) (h : Heap), YP w h → (K w.params).In h)
    (F : ∀ (w : World) (mg : Str → Option Value) (fa : Addr) (h : Heap), (K w.params).In h → h.Ns mainGlobals mg → mg d.name = some (.ref fa) →
      ∃ fd : FuncData, (∀ (s : Shared) (u : Value), BindsTo s fd ⟨[u], []⟩ [(x, u)]) ∧ ∀ base : Heap, (K w.params).In base → base.Ns mainGlobals mg → FnG l.prog w (K w.params) mg base CX0 k fa fd [x] (sp (K w.params)))
    (hsp : ∀ (K : PySem.W.Frag) (H : Hp) (a : Addr) (ns : List Int), ns.length ≤ n → Only H → SqL K H a (ns.map V.int) → sp K [.ref a] H (fun v _ => v = .bl true) fun _ _ _ => False) :
    PySem.W.WalkO q loose XP YP l.row.toRowW d [] (fun f vs => PySem.call f vs) := by
  refine Att.attach_call hn hdf ?_
  intro w s₀ s₁ mg mb fa o pm cd doc a vs ns G Y ho hd hcd hmg hobj hints hlen hgen
  obtain ⟨fd, hb, hF⟩ := F w mg fa _ (hY w _ Y) G.T.g hmg
  exact law_callG (hY w _ Y) G.T.g G.T.b G.T.builtins G.T.nolimit hgen hobj hints (Nat.le_trans hlen hn2) hr hF hb fun H hO hS => hsp _ H a ns hlen hO hS

/-! ### data -/
mutual
/-- x stands for the datum d: lists, tuples, empty dicts -/
inductive Dt (K : PySem.W.Frag) (H : Hp) : V → PyData → Prop
  | non : Dt K H .non .none
  | bl (b : Bool) : Dt K H (.bl b) (.bool b)
  | int (i : Int) : Dt K H (.int i) (.int i)
  | str (x : Str) : Dt K H (.str x) (.str x)
  | lst {a : Addr} {xs : List V} {ds : List PyData} : H a = some (.lst xs) → Dts K H xs ds → Dt K H (.ref a) (.list ds)
  | tup {a : Addr} {xs : List V} {ds : List PyData} : H a = some (.tup xs) → Dts K H xs ds → Dt K H (.ref a) (.tuple ds)
  | dct {a : Addr} : H a = some (.dK []) → Dt K H (.ref a) (.dict [])
inductive Dts (K : PySem.W.Frag) (H : Hp) : List V → List PyData → Prop
  | nil : Dts K H [] []
  | cons {v : V} {vs : List V} {d : PyData} {ds : List PyData} : Dt K H v d → Dts K H vs ds → Dts K H (v :: vs) (d :: ds)
end
section
variable {X : Cx} {pins : List (Addr × Obj)} {σ : L2.St} {H : Hp} {s : Shared}
theorem Dt.obL {K : PySem.W.Frag} {a : Addr} {xs : List V} (I : Inv X pins σ H s) (h : H a = some (.lst xs)) : ∃ (its : List Value) (n : Nat), Vals xs its ∧ s.heap.get? a = some { cls := .type "list", data := .seq its.toArray n } :=
  let ⟨_, its, n, rv, ho⟩ := (show ObjOk X.prog X.w H s.heap a (.lst xs) from I.hok _ _ h)
  ⟨its, n, rv, ho⟩
theorem Dt.obT {a : Addr} {xs : List V} (I : Inv X pins σ H s) (h : H a = some (.tup xs)) : ∃ (its : List Value) (o : Obj) (n : Nat), Vals xs its ∧ s.heap.get? a = some o ∧ o.cls = .type "tuple" ∧ o.data = .seq its.toArray n :=
  let ⟨_, its, rv, o, h1, h2, n, h3⟩ := (show ObjOk X.prog X.w H s.heap a (.tup xs) from I.hok _ _ h)
  ⟨its, o, n, rv, h1, h2, h3⟩
theorem Dt.obD {a : Addr} (I : Inv X pins σ H s) (h : H a = some (.dK [])) : ∃ (o : Obj) (n : Nat), s.heap.get? a = some o ∧ o.cls = .type "dict" ∧ o.data = .dict #[] n ∧ (a == sysModules) = false := by
  obtain ⟨_, hsys, vs, hv, o, es, ep, h1, h2, h3, _, h4, _⟩ := (show ObjOk X.prog X.w H s.heap a (.dK []) from I.hok _ _ h)
  cases hv
  have e : es = #[] := by
    cases es with
    | mk l => 
      have z : l = [] := by
        cases h4
        rfl
      rw [z]
  subst e
  exact ⟨o, ep, h1, h2.1, h3, hsys⟩
mutual
theorem Dt.reads (I : Inv X pins σ H s) : ∀ (d : PyData) (v : V) (u : Value), Dt X.K H v d → RelV v u → ∃ as, Reads s.heap u d as
  | .none, _, _, h, r => by
    cases h
    cases r
    exact ⟨_, .none⟩
  | .bool b, _, _, h, r => by
    cases h
    cases r
    exact ⟨_, .bool b⟩
  | .int i, _, _, h, r => by
    cases h
    obtain ⟨t, rfl⟩ := r
    exact ⟨_, .int i t⟩
  | .str x, _, _, h, r => by
    cases h
    obtain ⟨t, rfl⟩ := r
    exact ⟨_, .str x t⟩
  | .list ds, v, _, h, r => by
    cases h with
    | lst hs ha =>
      cases r
      obtain ⟨its, n, rv, ho⟩ := Dt.obL (K := X.K) I hs
      obtain ⟨as, hr⟩ := Dt.readsAll I ds _ its ha rv
      exact ⟨_, .list ho rfl rfl hr⟩
  | .tuple ds, _, _, h, r => by
    cases h with
    | tup hs ha =>
      cases r
      obtain ⟨its, o, n, rv, h1, h2, h3⟩ := Dt.obT I hs
      obtain ⟨as, hr⟩ := Dt.readsAll I ds _ its ha rv
      exact ⟨_, .tuple h1 h2 h3 hr⟩
  | .dict kvs, _, _, h, r => by
    cases h with
    | dct hs =>
      cases r
      obtain ⟨o, n, h1, h2, h3, _⟩ := Dt.obD I hs
      exact ⟨_, .dict h1 h2 h3 .nil .nil⟩
theorem Dt.readsAll (I : Inv X pins σ H s) : ∀ (ds : List PyData) (vs : List V) (us : List Value), Dts X.K H vs ds → Vals vs us → ∃ as, ReadsAll s.heap us ds as
  | [], _, _, h, r => by
    cases h
    cases r
    exact ⟨_, .nil⟩
  | d :: ds, _, _, h, r => by
    cases h with
    | cons h1 h2 =>
      cases r with
      | cons r1 r2 =>
        obtain ⟨as, q1⟩ := Dt.reads I d _ _ h1 r1
        obtain ⟨bs, q2⟩ := Dt.readsAll I ds _ _ h2 r2
        exact ⟨_, .cons q1 q2⟩
end
mutual
theorem Dt.rep (I : Inv X pins σ H s) : ∀ (d : PyData) (v : V) (u : Value), Dt X.K H v d → RelV v u → d.showable = true → d.shown.length ≤ sizeLine → ∃ bs, ReadAtMost s.heap d.depth bs ∧ ReprK X.prog X.w bs s.heap d.depth u d.shown
  | .none, _, _, h, r, _, _ => by
    cases h
    cases r
    exact ⟨[], (fun _ z => nomatch z), by simp only [PyData.shown]; exact .of_is ReprIs.none _ _ _⟩
  | .bool b, _, _, h, r, _, _ => by
    cases h
    cases r
    exact ⟨[], (fun _ z => nomatch z), by simp only [PyData.shown]; exact .of_is (ReprIs.bool b) _ _ _⟩
  | .int i, _, _, h, r, hs, _ => by
    cases h
    obtain ⟨t, rfl⟩ := r
    exact ⟨[], (fun _ z => nomatch z), by simp only [PyData.shown]; exact .of_is (ReprIs.int t (by simpa [PyData.showable] using hs)) _ _ _⟩
  | .str x, _, _, h, r, _, hz => by
    cases h
    obtain ⟨t, rfl⟩ := r
    exact ⟨[], (fun _ z => nomatch z), by simp only [PyData.shown]; exact .of_is (ReprIs.str x t (by simpa only [PyData.shown] using hz)) _ _ _⟩
  | .list ds, v, u, h, r, hs, hz => by
    obtain ⟨as0, whole⟩ := Dt.reads I (.list ds) v u h r
    have hz' : (listText (PyData.shownAll ds)).length ≤ sizeLine := by simpa only [PyData.shown] using hz
    cases h with
    | lst hh ha =>
      cases r
      obtain ⟨its, n, rv, ho⟩ := Dt.obL (K := X.K) I hh
      obtain ⟨bs, hb, hk⟩ := Dt.repAll I ds _ its ha rv (by simpa [PyData.showable] using hs) fun t ht => Nat.le_trans (listText_mem_le ht) hz'
      have out := not_mem_of_deeper whole (n := PyData.depthAll ds) (by simp only [PyData.depth]; omega) hb
      refine ⟨_ :: bs, ReadAtMost.cons whole (by simp only [PyData.depth]; omega) hb, ?_⟩
      simp only [PyData.depth, PyData.shown]
      cases its with
      | nil =>
        cases rv
        cases ha
        simp only [PyData.shownAll, listText_nil]
        exact ReprK.listEmpty ho rfl rfl
      | cons x l => exact ReprK.list ho rfl rfl out (by simpa using hk.length_eq) fun i y e => hk.item i y (by simpa using e)
  | .tuple ds, v, u, h, r, hs, hz => by
    obtain ⟨as0, whole⟩ := Dt.reads I (.tuple ds) v u h r
    have hz' : (tupleText (PyData.shownAll ds)).length ≤ sizeLine := by simpa only [PyData.shown] using hz
    cases h with
    | tup hh ha =>
      cases r
      obtain ⟨its, o, n, rv, h1, h2, h3⟩ := Dt.obT I hh
      obtain ⟨bs, hb, hk⟩ := Dt.repAll I ds _ its ha rv (by simpa [PyData.showable] using hs) fun t ht => Nat.le_trans (tupleText_mem_le ht) hz'
      have out := not_mem_of_deeper whole (n := PyData.depthAll ds) (by simp only [PyData.depth]; omega) hb
      refine ⟨_ :: bs, ReadAtMost.cons whole (by simp only [PyData.depth]; omega) hb, ?_⟩
      simp only [PyData.depth, PyData.shown]
      exact ReprK.tuple h1 h2 h3 out hk
  | .dict kvs, v, u, h, r, hs, hz => by
    obtain ⟨as0, whole⟩ := Dt.reads I (.dict kvs) v u h r
    cases h with
    | dct hh =>
      cases r
      obtain ⟨o, n, h1, h2, h3, h4⟩ := Dt.obD I hh
      refine ⟨[_], ReadAtMost.cons whole (Nat.le_refl _) (fun _ z => nomatch z), ?_⟩
      simp only [PyData.depth, PyData.shown, PyData.shownKv]
      exact ReprK.dict h1 h2 h3 h4 (by simp) .nil
theorem Dt.repAll (I : Inv X pins σ H s) : ∀ (ds : List PyData) (vs : List V) (us : List Value), Dts X.K H vs ds → Vals vs us → PyData.showableAll ds = true → (∀ t ∈ PyData.shownAll ds, t.length ≤ sizeLine) →
    ∃ bs, ReadAtMost s.heap (PyData.depthAll ds) bs ∧ ReprAllK X.prog X.w bs s.heap (PyData.depthAll ds) us (PyData.shownAll ds)
  | [], _, _, h, r, _, _ => by
    cases h
    cases r
    exact ⟨[], (fun _ z => nomatch z), by simp only [PyData.shownAll]; exact .nil⟩
  | d :: ds, _, _, h, r, hs, hz => by
    have hs' : d.showable = true ∧ PyData.showableAll ds = true := by simpa [PyData.showableAll] using hs
    cases h with
    | cons h1 h2 =>
      cases r with
      | cons r1 r2 =>
        obtain ⟨b1, hb1, k1⟩ := Dt.rep I d _ _ h1 r1 hs'.1 (hz _ (by simp [PyData.shownAll]))
        obtain ⟨b2, hb2, k2⟩ := Dt.repAll I ds _ _ h2 r2 hs'.2 fun t ht => hz t (by simp [PyData.shownAll, ht])
        refine ⟨b1 ++ b2, fun b hm => ?_, ?_⟩
        · rcases List.mem_append.mp hm with z | z
          · obtain ⟨d', as', r', q⟩ := hb1 b z
            exact ⟨d', as', r', Nat.le_trans q (by simp only [PyData.depthAll]; omega)⟩
          · obtain ⟨d', as', r', q⟩ := hb2 b z
            exact ⟨d', as', r', Nat.le_trans q (by simp only [PyData.depthAll]; omega)⟩
        · simp only [PyData.depthAll, PyData.shownAll]
          exact .cons ((k1.more fun b z => List.mem_append_left _ z).level_le (by omega)) (k2.more_le (fun b z => List.mem_append_right _ z) (by omega))
end
/-- repr(x), x data -/
def rRepD (K : PySem.W.Frag) : List V → Hp → VK → Prop := fun xs H Q => ∃ x d, xs = [x] ∧ Dt K H x d ∧ d.showable = true ∧ d.shown.length ≤ sizeLine ∧ d.depth ≤ 60 ∧ Q (.str d.shown) H
theorem call_repD (hg : X.A.guards = some []) (hu : X.A.units + 64 < cLine) : CallR X (.builtin "repr") (rRepD X.K) := by
  intro pins s σ H xs us Q I r h
  obtain ⟨x, d, rfl, hd, hs, hz, hn, q⟩ := h
  obtain ⟨u, rfl, r1⟩ := vals1 r
  have back : ∀ (h' : Heap) (t : Tok) (tk : Nat), (∀ b o, s.heap.get? b = some o → h'.get? b = some o) → EP X pins σ Q (.str d.shown t) { s with heap := h', toks := tk } := fun h' t tk k =>
    ⟨.str d.shown, H, I.kept k, ⟨t, rfl⟩, q⟩
  cases d with
  | none =>
    cases hd
    cases r1
    exact PySem.P.repr_of_none (back _ _ _ fun _ _ e => e)
  | bool b =>
    cases hd
    cases r1
    exact PySem.P.repr_of_bool (back _ _ _ fun _ _ e => e)
  | int i =>
    cases hd
    obtain ⟨t, rfl⟩ := r1
    exact PySem.P.repr_of_int (by simpa [PyData.showable] using hs) (back _ _ _ fun _ _ e => e)
  | str y =>
    cases hd
    obtain ⟨t, rfl⟩ := r1
    exact PySem.P.repr_of_str (back _ _ _ fun _ _ e => e) (by simpa only [PyData.shown] using hz)
  | list ds =>
    obtain ⟨as0, whole⟩ := Dt.reads I (.list ds) x u hd r1
    have hz' : (listText (PyData.shownAll ds)).length ≤ sizeLine := by simpa only [PyData.shown] using hz
    cases hd with
    | lst hh ha =>
      cases r1
      obtain ⟨its, n, rv, ho⟩ := Dt.obL (K := X.K) I hh
      obtain ⟨bs, hb, hk⟩ := Dt.repAll I ds _ its ha rv (by simpa [PyData.showable] using hs) fun t ht => Nat.le_trans (listText_mem_le ht) hz'
      have out := not_mem_of_deeper whole (n := PyData.depthAll ds) (by simp only [PyData.depth]; omega) hb
      simp only [PyData.depth] at hn
      refine call_repr_slot (by omega) ⟨_, ho, rfl⟩ F.slot_list_repr.toG ?_
      cases its with
      | nil =>
        cases rv
        cases ha
        simp only [PyData.shown, PyData.shownAll, listText_nil] at back
        exact call_list_repr_empty ⟨_, ho, rfl⟩ ho rfl ⟨_, _, rfl, back s.heap _ _ fun _ _ e => e⟩
      | cons y l =>
        simp only [PyData.shown] at back
        exact call_list_reprK ho rfl rfl out (by simpa using hk.length_eq) (fun i y e => hk.item i y (by simpa using e)) hg (fun b _ => Clear.nil b) (by show X.A.units + 1 + _ < _; omega) (fun _ _ e => e) (fun h' u tk k => ⟨_, _, rfl, back h' u tk k⟩) hz'
  | tuple ds =>
    obtain ⟨as0, whole⟩ := Dt.reads I (.tuple ds) x u hd r1
    have hz' : (tupleText (PyData.shownAll ds)).length ≤ sizeLine := by simpa only [PyData.shown] using hz
    cases hd with
    | tup hh ha =>
      cases r1
      obtain ⟨its, o, n, rv, h1, h2, h3⟩ := Dt.obT I hh
      obtain ⟨bs, hb, hk⟩ := Dt.repAll I ds _ its ha rv (by simpa [PyData.showable] using hs) fun t ht => Nat.le_trans (tupleText_mem_le ht) hz'
      have out := not_mem_of_deeper whole (n := PyData.depthAll ds) (by simp only [PyData.depth]; omega) hb
      simp only [PyData.depth] at hn
      simp only [PyData.shown] at back
      exact call_repr_slot (by omega) ⟨o, h1, h2⟩ F.slot_tuple_repr (call_tuple_reprK h1 h2 h3 out hk hg (fun b _ => Clear.nil b) (by show X.A.units + 1 + _ < _; omega) (fun _ _ e => e) (fun h' u tk k => ⟨_, _, rfl, back h' u tk k⟩) hz')
  | dict kvs =>
    cases hd with
    | dct hh =>
      cases r1
      obtain ⟨o, n, h1, h2, h3, h4⟩ := Dt.obD I hh
      simp only [PyData.shown, PyData.shownKv] at back hz
      exact call_repr_slot (by omega) ⟨o, h1, h2⟩ F.slot_dict_repr (call_dict_reprK (as := []) (d := 0) h1 h2 h3 h4 (by simp) .nil hg (fun b _ => Clear.nil b) (by show X.A.units + 1 + _ < _; omega) (fun _ _ e => e) (fun h' u tk k => ⟨_, _, rfl, back h' u tk k⟩) hz)
end
end GL

namespace GL
open PySem PySem.Spec PyProof.Rows L2
/-! ### a def of the text, ready to be called -/
structure Use (P : Program) (w : World) (K : PySem.W.Frag) (mg : Str → Option Value) (base : Heap) (x : Str) (ps : List Str) (sp : Sp) (k : Nat) : Prop where
  ex : ∃ f fd, FnOk P w K mg base CX0 k f fd ps sp ∧ mg x = some (.ref f) ∧ PySem.W.keepIn K (.ref f) = true ∧ Binds K fd ps []
structure UseG (P : Program) (w : World) (K : PySem.W.Frag) (mg : Str → Option Value) (base : Heap) (x : Str) (ps : List Str) (sp : Sp) (k : Nat) : Prop where
  ex : ∃ f fd, FnG P w K mg base CX0 k f fd ps sp ∧ mg x = some (.ref f) ∧ PySem.W.keepIn K (.ref f) = true ∧ Binds K fd ps []
section
variable {X : Cx} {ps : List Str} {sp : Sp} {x : Str} {e : Expr} {es : List Expr} {t : TA} {p pos : Pos} {k : Nat}
theorem pe_use (U : Use X.prog X.w X.K X.mg X.base x ps sp k) (hr : Room k X.A) (hg : Gl X x) (ha : PA X (e :: es) t)
    (hdb : (x == ("__debug__" : Str)) = false := by decide) (he : starEach (e :: es) X.env = (false, eval e X.env) :: starEach es X.env := by rfl) (hpl : (backTo pos (starEach es X.env)).any (·.1) = false := by rfl) :
    PE X (.Call (.Name x p) (e :: es) [] pos) (tCall sp [] E0 t) := by
  obtain ⟨f, fd, F, hm, hk, hb⟩ := U.ex
  exact pe_call F hr hg hm hk hb .nil pass0 ha hdb he hpl
theorem pe_useG (U : UseG X.prog X.w X.K X.mg X.base x ps sp k) (hgd : X.A.guards = some []) (hr : Room k X.A) (hg : Gl X x) (ha : PA X (e :: es) t)
    (hdb : (x == ("__debug__" : Str)) = false := by decide) (he : starEach (e :: es) X.env = (false, eval e X.env) :: starEach es X.env := by rfl) (hpl : (backTo pos (starEach es X.env)).any (·.1) = false := by rfl) :
    PE X (.Call (.Name x p) (e :: es) [] pos) (tCall sp [] E0 t) := by
  obtain ⟨f, fd, F, hm, hk, hb⟩ := U.ex
  exact pe_callG F hgd hr hg hm hk hb .nil pass0 ha hdb he hpl
end
/-! ### rules -/
section
variable {X : Cx} {pos : Pos}
def CPowW (i j : Int) : Prop := 0 ≤ j ∧ (Builtin.Int.intBits i : Int) * j ≤ 2 ^ 27
theorem op_powW : OpR X (binaryOp .Pow) (rI CPowW fun i j => .int (i ^ j.toNat)) := opI fun _ _ _ _ _ _ _ hc q => pow_int hc.1 hc.2 q
/-- xs != ys, ys an empty list -/
def rNeNil (K : PySem.W.Frag) : R2 := fun x y H Q => ∃ a b xs, x = .ref a ∧ y = .ref b ∧ SqL K H a xs ∧ SqL K H b [] ∧ Q (.bl (!xs.isEmpty)) H
theorem op_neNil (hu : X.A.units + 64 < cLine) : OpR X (compareOp .NotEq) (rNeNil X.K) := by
  intro pins s σ H x y v u Q I rx ry h
  obtain ⟨a, b, xs, rfl, rfl, ha, hb, q⟩ := h
  cases rx
  cases ry
  obtain ⟨is, ra, pa, _⟩ := I.list ha
  obtain ⟨js, rb, pb, _⟩ := I.list hb
  cases rb
  cases xs with
  | nil =>
    cases ra
    exact (SeqAt.RcNeAt.lists (e := fun _ => true) pa.isList pb.isList rfl (by omega) (fun j h1 => absurd h1 (by simp))) _ _ _ _ ⟨.bl _, H, I, rfl, q⟩
  | cons z zs =>
    cases ra with
    | cons r1 r2 => exact (SeqAt.RcNeAt.lists_lengths pa.isList pb.isList (by simp) (by omega)) _ _ _ _ ⟨.bl _, H, I, rfl, q⟩
end
end GL

namespace GL
open PySem PySem.Spec PyProof.Rows L2
theorem same_new {p : Addr} {H : Hp} {o : HO} (h : H p = none) : Same H (upd H p o) := fun b u e => by rw [upd_ne (ne_of_none e h)]; exact e
mutual
theorem Dt.same {K : PySem.W.Frag} {H H' : Hp} (s : Same H H') : ∀ (d : PyData) (v : V), Dt K H v d → Dt K H' v d
  | .none, _, h => by cases h; exact .non
  | .bool b, _, h => by cases h; exact .bl b
  | .int i, _, h => by cases h; exact .int i
  | .str x, _, h => by cases h; exact .str x
  | .list ds, _, h => by
    cases h with
    | lst e a => exact .lst (s _ _ e) (Dts.same s ds _ a)
  | .tuple ds, _, h => by
    cases h with
    | tup e a => exact .tup (s _ _ e) (Dts.same s ds _ a)
  | .dict kvs, _, h => by
    cases h with
    | dct e => exact .dct (s _ _ e)
theorem Dts.same {K : PySem.W.Frag} {H H' : Hp} (s : Same H H') : ∀ (ds : List PyData) (vs : List V), Dts K H vs ds → Dts K H' vs ds
  | [], _, h => by cases h; exact .nil
  | d :: ds, _, h => by
    cases h with
    | cons a b => exact .cons (Dt.same s d _ a) (Dts.same s ds _ b)
end
theorem Dts.length {K : PySem.W.Frag} {H : Hp} : ∀ {vs : List V} {ds : List PyData}, Dts K H vs ds → vs.length = ds.length
  | _, _, .nil => rfl
  | _, _, .cons _ b => congrArg (· + 1) b.length
theorem Dts.get {K : PySem.W.Frag} {H : Hp} : ∀ {vs : List V} {ds : List PyData} {i : Nat} {v : V}, Dts K H vs ds → vs[i]? = some v → ∃ d, ds[i]? = some d ∧ Dt K H v d
  | _, _, i, v, .nil, e => by simp at e
  | _, _, 0, v, .cons a _, e => by
    cases e
    exact ⟨_, rfl, a⟩
  | _, _, i + 1, v, .cons _ b, e => b.get (i := i) (v := v) e
def tyOf : PyData → String
  | .none => "NoneType" | .bool _ => "bool" | .int _ => "int" | .str _ => "str" | .list _ => "list" | .tuple _ => "tuple" | .dict _ => "dict"
theorem Dt.ty {K : PySem.W.Frag} {H : Hp} {x : V} {d : PyData} (h : Dt K H x d) : TyX K H x (.type (tyOf d)) := by
  cases h with
  | non => exact .base .non
  | bl b => exact .base (.bl b)
  | int i => exact .base (.int i)
  | str x => exact .base (.str x)
  | lst e _ => exact .base (.lst e)
  | tup e _ => exact .base (.tup e)
  | dct e => exact .base (.dK e)
def isInt : PyData → Bool
  | .bool _ => true | .int _ => true | _ => false
def isBool : PyData → Bool
  | .bool _ => true | _ => false
def isList : PyData → Bool
  | .list _ => true | _ => false
theorem kit_int {K : PySem.W.Frag} (d : PyData) : PySem.W.kitOne K (.type (tyOf d)) (.type "int") = some (isInt d) := by
  cases d with
  | none => exact kit_ty (show kitB "NoneType" "int" = some false by decide +kernel)
  | bool _ => exact kit_ty (show kitB "bool" "int" = some true by decide +kernel)
  | int _ => exact kit_ty (show kitB "int" "int" = some true by decide +kernel)
  | str _ => exact kit_ty (show kitB "str" "int" = some false by decide +kernel)
  | list _ => exact kit_ty (show kitB "list" "int" = some false by decide +kernel)
  | tuple _ => exact kit_ty (show kitB "tuple" "int" = some false by decide +kernel)
  | dict _ => exact kit_ty (show kitB "dict" "int" = some false by decide +kernel)
theorem kit_bool {K : PySem.W.Frag} (d : PyData) : PySem.W.kitOne K (.type (tyOf d)) (.type "bool") = some (isBool d) := by
  cases d with
  | none => exact kit_ty (show kitB "NoneType" "bool" = some false by decide +kernel)
  | bool _ => exact kit_ty (show kitB "bool" "bool" = some true by decide +kernel)
  | int _ => exact kit_ty (show kitB "int" "bool" = some false by decide +kernel)
  | str _ => exact kit_ty (show kitB "str" "bool" = some false by decide +kernel)
  | list _ => exact kit_ty (show kitB "list" "bool" = some false by decide +kernel)
  | tuple _ => exact kit_ty (show kitB "tuple" "bool" = some false by decide +kernel)
  | dict _ => exact kit_ty (show kitB "dict" "bool" = some false by decide +kernel)
theorem kit_list {K : PySem.W.Frag} (d : PyData) : PySem.W.kitOne K (.type (tyOf d)) (.type "list") = some (isList d) := by
  cases d with
  | none => exact kit_ty (show kitB "NoneType" "list" = some false by decide +kernel)
  | bool _ => exact kit_ty (show kitB "bool" "list" = some false by decide +kernel)
  | int _ => exact kit_ty (show kitB "int" "list" = some false by decide +kernel)
  | str _ => exact kit_ty (show kitB "str" "list" = some false by decide +kernel)
  | list _ => exact kit_ty (show kitB "list" "list" = some true by decide +kernel)
  | tuple _ => exact kit_ty (show kitB "tuple" "list" = some false by decide +kernel)
  | dict _ => exact kit_ty (show kitB "dict" "list" = some false by decide +kernel)
theorem yes_of {σ : L2.St} {H : Hp} {A B : Bool → Hp → Prop} (h : A true H) : tYes σ H (fun b H' => if b = true then A b H' else B b H') := by
  show (if true = true then A true H else B true H)
  exact iteT h
end GL

/-! Data whose repr is known to fit: leaves, and lists and tuples of at most fifty things, three deep. -/
namespace GL
open PySem PySem.Spec PyProof.Rows L2
def Leaf : PyData → Prop
  | .none => True
  | .bool _ => True
  | .int i => i.natAbs < 2 ^ 100
  | .str x => (reprText x).length ≤ 110
  | .dict kvs => kvs = []
  | _ => False
def Nice : Nat → PyData → Prop
  | 0, d => Leaf d
  | n + 1, d => Leaf d ∨ ∃ ds, (d = .list ds ∨ d = .tuple ds) ∧ ds.length ≤ 50 ∧ ∀ e ∈ ds, Nice n e
theorem Nice.leaf {n : Nat} {d : PyData} (h : Leaf d) : Nice n d := by
  cases n with
  | zero => exact h
  | succ n => exact .inl h
theorem Nice.up {n : Nat} {d : PyData} (h : Nice n d) : Nice (n + 1) d := by
  induction n generalizing d with
  | zero => exact .inl h
  | succ n ih =>
    rcases h with h | ⟨ds, e, l, a⟩
    · exact .inl h
    · exact .inr ⟨ds, e, l, fun x hx => ih (a x hx)⟩
theorem Nice.list {n : Nat} {ds : List PyData} (l : ds.length ≤ 50) (a : ∀ e ∈ ds, Nice n e) : Nice (n + 1) (.list ds) := .inr ⟨ds, .inl rfl, l, a⟩
theorem textFrom_le : ∀ (ts : List Str) (k : Nat) (acc : Str), (textFrom k acc ts).length ≤ acc.length + piled ts
  | [], k, acc => Nat.le_refl _
  | t :: r, k, acc => by
    have ih := textFrom_le r (k + 1) (acc ++ (if k > 0 then ", " else "" : String) ++ t)
    rw [strLen_append, strLen_append] at ih
    rw [piled_cons]
    show (textFrom (k + 1) (acc ++ (if k > 0 then ", " else "" : String) ++ t) r).length ≤ _
    have e : (Str.ofString (if k > 0 then ", " else "" : String)).length ≤ 2 := by
      by_cases h : k > 0
      · rw [if_pos h]
        exact Nat.le_of_eq rfl
      · rw [if_neg h]
        exact Nat.zero_le _
    omega
theorem listText_le (ts : List Str) : (listText ts).length ≤ 2 + piled ts := by
  unfold listText
  rw [strLen_append]
  have := textFrom_le ts 0 "["
  have e1 : (Str.ofString "[").length = 1 := rfl
  have e2 : (Str.ofString "]").length = 1 := rfl
  omega
theorem tupleText_le (ts : List Str) : (tupleText ts).length ≤ 3 + piled ts := by
  unfold tupleText
  rw [strLen_append, strLen_append]
  have e1 : (Str.ofString "(").length = 1 := rfl
  have e2 : (Str.ofString (if ts.length == 1 then ",)" else ")" : String)).length ≤ 2 := by
    by_cases h : (ts.length == 1) = true
    · rw [if_pos h]
      exact Nat.le_of_eq rfl
    · rw [if_neg h]
      exact Nat.le_succ _
  cases ts with
  | nil =>
    have e3 : (Str.join ", " ([] : List Str)).length = 0 := rfl
    omega
  | cons t r =>
    have := join_length_add (t :: r) (by simp)
    omega
theorem piled_le {B : Nat} : ∀ {ds : List PyData}, (∀ e ∈ ds, e.shown.length ≤ B) → piled (PyData.shownAll ds) ≤ ds.length * (B + 2)
  | [], _ => Nat.zero_le _
  | d :: ds, h => by
    have ih := piled_le (ds := ds) (B := B) fun e he => h e (List.mem_cons_of_mem _ he)
    have h0 := h d (List.mem_cons_self ..)
    simp only [PyData.shownAll]
    rw [piled_cons, List.length_cons, Nat.add_mul]
    omega
def Bound : Nat → Nat
  | 0 => 110
  | n + 1 => 3 + 50 * (Bound n + 2)
theorem Bound.up (n : Nat) : 110 ≤ Bound n := by
  induction n with
  | zero => exact Nat.le_refl _
  | succ n ih =>
    show 110 ≤ 3 + 50 * (Bound n + 2)
    omega
theorem log_of {i : Int} (h : i.natAbs < 2 ^ 100) : i.natAbs.log2 < 100 := PySem.Flt.log2_lt_of (by decide) h
theorem Leaf.shown {d : PyData} (h : Leaf d) : d.shown.length ≤ 110 ∧ d.showable = true ∧ d.depth ≤ 1 := by
  cases d with
  | none => exact ⟨by simp only [PyData.shown]; decide, by simp only [PyData.showable], by simp only [PyData.depth]; omega⟩
  | bool b => exact ⟨by simp only [PyData.shown]; cases b <;> decide, by simp only [PyData.showable], by simp only [PyData.depth]; omega⟩
  | int i =>
    have l := log_of h
    refine ⟨?_, by simp only [PyData.showable]; exact decide_eq_true (by omega), by simp only [PyData.depth]; omega⟩
    simp only [PyData.shown]
    have := int_text_length_le (k := 100) (by decide) l
    rw [PySem.ofString_length]
    omega
  | str x => exact ⟨by simp only [PyData.shown]; exact h, by simp only [PyData.showable], by simp only [PyData.depth]; omega⟩
  | dict kvs =>
    have e : kvs = [] := h
    subst e
    exact ⟨by simp only [PyData.shown, PyData.shownKv]; decide, by simp only [PyData.showable, PyData.showableKv], by simp only [PyData.depth, PyData.depthKv]; omega⟩
  | list ds => exact h.elim
  | tuple ds => exact h.elim
theorem showableAll_of : ∀ {ds : List PyData}, (∀ e ∈ ds, e.showable = true) → PyData.showableAll ds = true
  | [], _ => by simp only [PyData.showableAll]
  | d :: ds, h => by
    simp only [PyData.showableAll]
    rw [h d (List.mem_cons_self ..), showableAll_of fun e he => h e (List.mem_cons_of_mem _ he)]
    rfl
theorem depthAll_of {n : Nat} : ∀ {ds : List PyData}, (∀ e ∈ ds, e.depth ≤ n) → PyData.depthAll ds ≤ n
  | [], _ => by simp only [PyData.depthAll]; omega
  | d :: ds, h => by
    simp only [PyData.depthAll]
    have h0 := h d (List.mem_cons_self ..)
    have ih := depthAll_of (n := n) fun e he => h e (List.mem_cons_of_mem _ he)
    omega
theorem Nice.shown : ∀ {n : Nat} {d : PyData}, Nice n d → d.shown.length ≤ Bound n ∧ d.showable = true ∧ d.depth ≤ n + 1
  | 0, d, h => by
    obtain ⟨a, b, c⟩ := Leaf.shown h
    exact ⟨a, b, by omega⟩
  | n + 1, d, h => by
    rcases h with h | ⟨ds, e, l, a⟩
    · obtain ⟨x, y, z⟩ := Leaf.shown h
      exact ⟨Nat.le_trans x (Bound.up _), y, by omega⟩
    · have m : ds.length * (Bound n + 2) ≤ 50 * (Bound n + 2) := Nat.mul_le_mul_right _ l
      have pl := piled_le (B := Bound n) fun x hx => (Nice.shown (a x hx)).1
      have sh := showableAll_of fun x hx => (Nice.shown (a x hx)).2.1
      have dp := depthAll_of (n := n + 1) fun x hx => (Nice.shown (a x hx)).2.2
      rcases e with rfl | rfl
      · refine ⟨?_, by simp only [PyData.showable]; exact sh, by simp only [PyData.depth]; omega⟩
        simp only [PyData.shown]
        have := listText_le (PyData.shownAll ds)
        show _ ≤ 3 + 50 * (Bound n + 2)
        omega
      · refine ⟨?_, by simp only [PyData.showable]; exact sh, by simp only [PyData.depth]; omega⟩
        simp only [PyData.shown]
        have := tupleText_le (PyData.shownAll ds)
        show _ ≤ 3 + 50 * (Bound n + 2)
        omega
theorem Nice.fits {d : PyData} (h : Nice 3 d) : d.showable = true ∧ d.shown.length ≤ sizeLine ∧ d.depth ≤ 60 := by
  obtain ⟨a, b, c⟩ := h.shown
  refine ⟨b, Nat.le_trans a ?_, by omega⟩
  rw [sizeLine_eq]
  decide
/-! ### what is tracked, but for one thing -/
def hid (H : Hp) (g : Addr) : Hp := fun b => if b = g then none else H b
theorem hid_ne {H : Hp} {g b : Addr} (h : b ≠ g) : hid H g b = H b := if_neg h
theorem hid_none {H : Hp} {g b : Addr} {o : HO} (h : hid H g b = some o) : b ≠ g := fun z => by
  unfold hid at h
  rw [if_pos z] at h
  cases h
end GL

namespace GL
open PySem PySem.Spec PyProof.Rows L2
theorem dpAll_ints {K : PySem.W.Frag} {H : Hp} : ∀ ns : List Int, DpAll K H (ns.map V.int) (ns.map PyData.int)
  | [] => .nil
  | n :: ns => .cons (.int n) (dpAll_ints ns)
/-- a row of numbers, as data -/
def rowP (ns : List Int) : PyData := .list (ns.map PyData.int)
theorem dp_row {K : PySem.W.Frag} {H : Hp} {a : Addr} {ns : List Int} (h : SqL K H a (ns.map V.int)) : Dp K H (.ref a) (rowP ns) := .lst h (dpAll_ints ns)
section
variable {X : Cx}
end
/-! ### how many unlike numbers -/
/-! ### rows compared -/
theorem eqv_ints : ∀ xs ys : List Int, PyData.eqvAll (xs.map PyData.int) (ys.map PyData.int) = decide (xs = ys)
  | [], [] => by simp [PyData.eqvAll]
  | [], y :: ys => by simp [PyData.eqvAll]
  | x :: xs, [] => by simp [PyData.eqvAll]
  | x :: xs, y :: ys => by
    simp only [List.map_cons, PyData.eqvAll, PyData.eqv]
    rw [eqv_ints xs ys]
    by_cases h1 : x = y
    · subst h1
      simp
    · simp [h1]
theorem eqv_row (xs ys : List Int) : PyData.eqv (rowP xs) (rowP ys) = decide (xs = ys) := by
  unfold rowP
  simp only [PyData.eqv]
  exact eqv_ints xs ys
def tabP (kss : List (List Int)) : PyData := .list (kss.map rowP)
theorem eqv_rows : ∀ xs ys : List (List Int), PyData.eqvAll (xs.map rowP) (ys.map rowP) = decide (xs = ys)
  | [], [] => by simp [PyData.eqvAll]
  | [], y :: ys => by simp [PyData.eqvAll]
  | x :: xs, [] => by simp [PyData.eqvAll]
  | x :: xs, y :: ys => by
    simp only [List.map_cons, PyData.eqvAll]
    rw [eqv_rows xs ys, eqv_row]
    by_cases h1 : x = y
    · subst h1
      simp
    · simp [h1]
theorem eqv_tab (xs ys : List (List Int)) : PyData.eqv (tabP xs) (tabP ys) = decide (xs = ys) := by
  unfold tabP
  simp only [PyData.eqv]
  exact eqv_rows xs ys
theorem lay_ints : ∀ xs : List Int, PyData.canLayAll0 (xs.map PyData.int) = true
  | [] => by simp [PyData.canLayAll0]
  | x :: xs => by
    simp only [List.map_cons, PyData.canLayAll0, PyData.canLay0]
    rw [lay_ints xs]
    rfl
theorem lay_row (xs : List Int) : PyData.canLay0 (rowP xs) = true := by
  unfold rowP
  simp only [PyData.canLay0]
  exact lay_ints xs
theorem lay_rows : ∀ xs : List (List Int), PyData.canLayAll0 (xs.map rowP) = true
  | [] => by simp [PyData.canLayAll0]
  | x :: xs => by
    simp only [List.map_cons, PyData.canLayAll0]
    rw [lay_rows xs, lay_row]
    rfl
theorem depth_row (xs : List Int) : (rowP xs).depth ≤ 1 := by
  unfold rowP
  simp only [PyData.depth]
  have := PySem.W.depth_ints xs
  omega
theorem depth_rows (xs : List (List Int)) : (tabP xs).depth ≤ 2 := by
  unfold tabP
  simp only [PyData.depth]
  have := depthAll_of (n := 1) (ds := xs.map rowP) fun e he => by
    obtain ⟨x, _, rfl⟩ := List.mem_map.mp he
    exact depth_row x
  omega
theorem shaped_row (xs : List Int) : SeqAt.shaped (rowP xs) = true := by
  unfold SeqAt.shaped
  rw [lay_row, decide_eq_true (Nat.le_trans (depth_row xs) (by decide))]
  rfl
theorem shaped_tab (xs : List (List Int)) : SeqAt.shaped (tabP xs) = true := by
  unfold SeqAt.shaped
  rw [decide_eq_true (Nat.le_trans (depth_rows xs) (by decide))]
  unfold tabP
  simp only [PyData.canLay0]
  rw [lay_rows]
  rfl
/-- a list of rows, as data -/
theorem dpAll_rows {K : PySem.W.Frag} {H : Hp} : ∀ {rs : List Addr} {kss : List (List Int)}, rs.length = kss.length → (∀ (i : Nat) r ks, rs[i]? = some r → kss[i]? = some ks → SqL K H r (ks.map V.int)) → DpAll K H (rs.map V.ref) (kss.map rowP)
  | [], [], _, _ => .nil
  | [], _ :: _, l, _ => by simp at l
  | _ :: _, [], l, _ => by simp at l
  | r :: rs, ks :: kss, l, h => .cons (dp_row (h 0 r ks rfl rfl)) (dpAll_rows (Nat.succ.inj l) fun i r' ks' a b => h (i + 1) r' ks' a b)
end GL

/-! itertools.combinations of a range, at the library's level -/
namespace Cmb
open PySem PySem.Spec PyProof.Rows
open Sem (wp)
theorem mro_c : mroOf (.type "itertools.combinations") = pure [.type "itertools.combinations", .type "object"] := by rw [mroOf_type]; kernel_rfl
theorem lookup_c_new : typeLookup (.type "itertools.combinations") "__new__" = pure (some (.builtin "itertools.combinations.__new__")) := by rw [typeLookup_type, builtinLookup_eq_fast]; kernel_rfl
theorem slot_c_init : Slot "itertools.combinations" "__init__" "object.__init__" :=
  .of (owner := "object") (n := "__init__") (by rw [typeLookup_type, builtinLookup_eq_fast]; kernel_rfl) (by decide +kernel) (by decide +kernel) (by decide +kernel)
    (by first | exact .inl (by decide +kernel) | exact .inr (by decide +kernel)) (by rw [isSubtype_type]; kernel_rfl)
theorem sub_c : isSubtype (.type "itertools.combinations") (.type "itertools.combinations") = pure true := by rw [isSubtype_type]; kernel_rfl
theorem called_c : TypeCalled "itertools.combinations" "itertools.combinations.__new__" "object.__init__" :=
  ⟨by decide +kernel, by decide +kernel, ⟨_, _, mro_c⟩, madeBy_type mro_c lookup_c_new (by decide +kernel), by decide +kernel, sub_c, slot_c_init⟩
theorem typeCall_c_2 (a b : Value) : checkTypeCall "itertools.combinations" ⟨[a, b], []⟩ = pure () := by kernel_rfl
theorem newCall_c_2 (a b : Value) : checkBuiltinCall "itertools.combinations.__new__" ⟨[.type "itertools.combinations", a, b], []⟩ = pure () := by kernel_rfl
theorem entry_c_new : entryFor table "itertools.combinations.__new__" = some Builtin.«itertools.combinations.__new__» := entryFor_of_tree (by kernel_rfl)
theorem slot_c_iter : Slot "itertools.combinations" "__iter__" "itertools.combinations.__iter__" :=
  .of (owner := "itertools.combinations") (n := "__iter__") (by rw [typeLookup_type, builtinLookup_eq_fast]; kernel_rfl) (by decide +kernel) (by decide +kernel) (by decide +kernel)
    (by first | exact .inl (by decide +kernel) | exact .inr (by decide +kernel)) sub_c
theorem slot_c_next : Slot "itertools.combinations" "__next__" "itertools.combinations.__next__" :=
  .of (owner := "itertools.combinations") (n := "__next__") (by rw [typeLookup_type, builtinLookup_eq_fast]; kernel_rfl) (by decide +kernel) (by decide +kernel) (by decide +kernel)
    (by first | exact .inl (by decide +kernel) | exact .inr (by decide +kernel)) sub_c
theorem entry_c_iter : entryFor table "itertools.combinations.__iter__" = some Builtin.«dict_keyiterator.__iter__» :=
  entryFor_alias (id' := "dict_keyiterator.__iter__") (by kernel_rfl) (by first | rfl | decide +kernel | (unfold String.splitOn; simp +decide [String.splitOnAux])) (by decide +kernel) (by kernel_rfl)
theorem entry_c_next : entryFor table "itertools.combinations.__next__" = some Builtin.«itertools.combinations.__next__» := entryFor_of_tree (by kernel_rfl)
theorem owner_c : Manifest.owners.lookup (String.ofList ['s', 'n', 'o', 'i', 't', 'a', 'n', 'i', 'b', 'm', 'o', 'c', '.', 's', 'l', 'o', 'o', 't', 'r', 'e', 't', 'i'].reverse) = some Manifest.sig_itertools_combinations := by kernel_rfl
theorem noDict_c : typeHasDict (.type "itertools.combinations") = false := by decide +kernel
theorem args_c_iter (a : Value) : argsOk "itertools.combinations.__iter__" ⟨[a], []⟩ := by
  unfold argsOk; rw [signature?_of (id := "itertools.combinations.__iter__") (n := ['_', '_', 'r', 'e', 't', 'i', '_', '_']) (o := ['s', 'n', 'o', 'i', 't', 'a', 'n', 'i', 'b', 'm', 'o', 'c', '.', 's', 'l', 'o', 'o', 't', 'r', 'e', 't', 'i']) (by kernel_rfl) owner_c]; kernel_rfl
theorem args_c_next (a : Value) : argsOk "itertools.combinations.__next__" ⟨[a], []⟩ := by
  unfold argsOk; rw [signature?_of (id := "itertools.combinations.__next__") (n := ['_', '_', 't', 'x', 'e', 'n', '_', '_']) (o := ['s', 'n', 'o', 'i', 't', 'a', 'n', 'i', 'b', 'm', 'o', 'c', '.', 's', 'l', 'o', 'o', 't', 'r', 'e', 't', 'i']) (by kernel_rfl) owner_c]; kernel_rfl
end Cmb

namespace Cmb
open PySem PySem.Spec PyProof.Rows
/-! ### all choices of r of the numbers from lo to n - 1, in order -/
def combs (n : Nat) : Nat → Nat → Nat → List (List Nat)
  | 0, _, _ => [[]]
  | r + 1, 0, lo => []
  | r + 1, d + 1, lo => (combs n r d (lo + 1)).map (lo :: ·) ++ combs n (r + 1) d (lo + 1)
/-- the row that begins at lo -/
def rowF (lo r : Nat) : List Nat := (List.range r).map (lo + ·)
theorem rowF_cons (lo r : Nat) : rowF lo (r + 1) = lo :: rowF (lo + 1) r := by
  unfold rowF
  rw [List.range_succ_eq_map, List.map_cons, List.map_map]
  congr 1
  exact List.map_congr_left fun j _ => by show lo + (j + 1) = lo + 1 + j; omega
theorem combs_len (n : Nat) : ∀ r d lo, ∀ l ∈ combs n r d lo, l.length = r
  | 0, d, lo, l, h => by
    cases d <;> (rw [combs] at h; rw [List.mem_singleton] at h; rw [h]; rfl)
  | r + 1, 0, lo, l, h => by
    rw [combs] at h
    cases h
  | r + 1, d + 1, lo, l, h => by
    rw [combs, List.mem_append, List.mem_map] at h
    rcases h with ⟨t, ht, rfl⟩ | h
    · rw [List.length_cons, combs_len n r d _ t ht]
    · exact combs_len n (r + 1) d _ l h
theorem combs_head (n : Nat) : ∀ r d lo, (combs n r d lo).head? = if r ≤ d then some (rowF lo r) else none
  | 0, d, lo => by
    rw [if_pos (Nat.zero_le _)]
    cases d <;> (rw [combs]; rfl)
  | r + 1, 0, lo => by
    rw [if_neg (by omega), combs]
    rfl
  | r + 1, d + 1, lo => by
    rw [combs, List.head?_append, List.head?_map, combs_head n r d (lo + 1), combs_head n (r + 1) d (lo + 1)]
    by_cases h : r ≤ d
    · rw [if_pos h, if_pos (show r + 1 ≤ d + 1 by omega), rowF_cons lo r]
      rfl
    · rw [if_neg h, if_neg (show ¬ r + 1 ≤ d by omega), if_neg (show ¬ r + 1 ≤ d + 1 by omega)]
      rfl
/-- the choice behind one, as a row -/
def nxt (n : Nat) : List Nat → Option (List Nat)
  | [] => none
  | a :: t => match nxt n t with
    | some t' => some (a :: t')
    | none => if (a != n - (t.length + 1)) = true then some (rowF (a + 1) (t.length + 1)) else none
/-- each is followed by the next one, the last one by e -/
def Ch {α : Type} (f : α → Option α) : List α → Option α → Prop
  | [], _ => True
  | [x], e => f x = e
  | x :: y :: r, e => f x = some y ∧ Ch f (y :: r) e
theorem Ch.append {α : Type} {f : α → Option α} : ∀ {l m : List α} {e : Option α}, Ch f l (match m with | [] => e | y :: _ => some y) → Ch f m e → Ch f (l ++ m) e
  | [], m, e, _, h => h
  | [x], [], e, h, _ => h
  | [x], y :: m, e, h, g => ⟨h, g⟩
  | x :: y :: l, m, e, h, g => ⟨h.1, Ch.append (l := y :: l) h.2 g⟩
theorem Ch.cons {n a r : Nat} {e : Option (List Nat)} : ∀ {l : List (List Nat)}, (∀ t ∈ l, t.length = r) → Ch (nxt n) l none → (e = if (a != n - (r + 1)) = true then some (rowF (a + 1) (r + 1)) else none) → Ch (nxt n) (l.map (a :: ·)) e
  | [], _, _, _ => trivial
  | [x], hl, h, he => by
    have h' : nxt n x = none := h
    have lx := hl x (List.mem_cons_self ..)
    show nxt n (a :: x) = e
    unfold nxt
    rw [h', he, lx]
  | x :: y :: l, hl, h, he => by
    refine ⟨?_, Ch.cons (l := y :: l) (fun t ht => hl t (List.mem_cons_of_mem _ ht)) h.2 he⟩
    show nxt n (a :: x) = some (a :: y)
    unfold nxt
    rw [h.1]
theorem combs_chain (n : Nat) : ∀ r d lo, lo + d = n → Ch (nxt n) (combs n r d lo) none
  | 0, d, lo, h => by cases d <;> (rw [combs]; rfl)
  | r + 1, 0, lo, h => by
    rw [combs]
    trivial
  | r + 1, d + 1, lo, h => by
    rw [combs]
    refine Ch.append ?_ (combs_chain n (r + 1) d (lo + 1) (by omega))
    have hd := combs_head n (r + 1) d (lo + 1)
    by_cases hr : r ≤ d
    · refine Ch.cons (combs_len n r d (lo + 1)) (combs_chain n r d (lo + 1) (by omega)) ?_
      by_cases c : r + 1 ≤ d
      · rw [if_pos c] at hd
        have ne : (lo != n - (r + 1)) = true := by
          rw [bne_iff_ne]
          omega
        rw [if_pos ne]
        cases e : combs n (r + 1) d (lo + 1) with
        | nil => rw [e] at hd; cases hd
        | cons y m => rw [e] at hd; exact hd
      · rw [if_neg c] at hd
        have eq : ¬ (lo != n - (r + 1)) = true := by
          rw [bne_iff_ne]
          omega
        rw [if_neg eq]
        cases e : combs n (r + 1) d (lo + 1) with
        | nil => rfl
        | cons y m => rw [e] at hd; cases hd
    · have e0 : combs n r d (lo + 1) = [] := by
        have := combs_head n r d (lo + 1)
        rw [if_neg hr] at this
        exact List.head?_eq_none_iff.mp this
      rw [e0]
      exact trivial
theorem Ch.at {α : Type} {f : α → Option α} : ∀ {l : List α} {x : α} {i : Nat}, Ch f l none → l[i]? = some x → f x = l[i + 1]?
  | [], _, _, _, h => by simp at h
  | [y], x, 0, h, e => by
    cases e
    exact h
  | [y], x, i + 1, h, e => by simp at e
  | y :: z :: l, x, 0, h, e => by
    cases e
    exact h.1
  | y :: z :: l, x, i + 1, h, e => Ch.at (l := z :: l) (i := i) h.2 e
/-- as the library has it -/
def nextC (n : Nat) (indices : List Nat) : Option (List Nat) :=
  let r := indices.length
  match (List.range r).reverse.find? fun i => indices.getD i 0 != i + n - r with
  | none => none
  | some i => some (indices.take i ++ (List.range (r - i)).map (indices.getD i 0 + 1 + ·))
theorem nextC_nxt (n : Nat) : ∀ l : List Nat, nextC n l = nxt n l
  | [] => rfl
  | a :: t => by
    have ih := nextC_nxt n t
    unfold nextC at ih ⊢
    unfold nxt
    rw [← ih]
    simp only [List.length_cons]
    rw [List.range_succ_eq_map, List.reverse_cons, List.find?_append, ← List.map_reverse, List.find?_map]
    have ef : ((fun i => (a :: t).getD i 0 != i + n - (t.length + 1)) ∘ Nat.succ) = fun i => t.getD i 0 != i + n - t.length := by
      funext i
      show ((a :: t).getD (i + 1) 0 != i + 1 + n - (t.length + 1)) = (t.getD i 0 != i + n - t.length)
      rw [List.getD_cons_succ, show i + 1 + n - (t.length + 1) = i + n - t.length by omega]
    rw [ef]
    cases h : (List.range t.length).reverse.find? (fun i => t.getD i 0 != i + n - t.length) with
    | some i =>
      have il : i < t.length := by
        have := List.mem_of_find?_eq_some h
        rw [List.mem_reverse, List.mem_range] at this
        exact this
      show some ((a :: t).take (i + 1) ++ (List.range (t.length + 1 - (i + 1))).map ((a :: t).getD (i + 1) 0 + 1 + ·)) = some (a :: (t.take i ++ (List.range (t.length - i)).map (t.getD i 0 + 1 + ·)))
      rw [List.getD_cons_succ, List.take_succ_cons, show t.length + 1 - (i + 1) = t.length - i by omega]
      rfl
    | none =>
      show (match (none : Option Nat).or ([0].find? fun i => (a :: t).getD i 0 != i + n - (t.length + 1)) with
        | none => none
        | some i => some ((a :: t).take i ++ (List.range (t.length + 1 - i)).map ((a :: t).getD i 0 + 1 + ·))) = _
      rw [Option.none_or]
      by_cases c : (a != n - (t.length + 1)) = true
      · have f0 : ([0].find? fun i => (a :: t).getD i 0 != i + n - (t.length + 1)) = some 0 := by
          refine List.find?_cons_of_pos ?_
          show (a != 0 + n - (t.length + 1)) = true
          rw [Nat.zero_add]
          exact c
        rw [f0, if_pos c]
        rfl
      · have f0 : ([0].find? fun i => (a :: t).getD i 0 != i + n - (t.length + 1)) = none := by
          rw [List.find?_cons_of_neg]
          · rfl
          · show ¬ (a != 0 + n - (t.length + 1)) = true
            rw [Nat.zero_add]
            exact c
        rw [f0, if_neg c]
def choices (n r : Nat) : List (List Nat) := combs n r n 0
theorem choices_first {n r : Nat} (h : r ≤ n) : (choices n r)[0]? = some (List.range r) := by
  have := combs_head n r n 0
  rw [if_pos h] at this
  unfold choices
  rw [← List.head?_eq_getElem?, this]
  unfold rowF
  congr 1
  conv => rhs; rw [← List.map_id (List.range r)]
  exact List.map_congr_left fun j _ => Nat.zero_add j
theorem choices_next {n r i : Nat} {x : List Nat} (h : (choices n r)[i]? = some x) : nextC n x = (choices n r)[i + 1]? := by
  rw [nextC_nxt]
  exact Ch.at (combs_chain n r n 0 (Nat.zero_add n)) h
theorem choices_none {n r : Nat} (h : n < r) : choices n r = [] := by
  have := combs_head n r n 0
  rw [if_neg (by omega)] at this
  exact List.head?_eq_none_iff.mp this
theorem choices_len {n r : Nat} {x : List Nat} (h : x ∈ choices n r) : x.length = r := combs_len n r n 0 x h
end Cmb

namespace Cmb
open PySem PySem.Spec PyProof.Rows
def recC (p : Addr) (st : Int) (last : Value) (idx : List Nat) : Array Value := ([Value.ref p, rawInt st, last] ++ idx.map fun (i : Nat) => rawInt i).toArray
abbrev IsC (h : Heap) (it p : Addr) (st : Int) (last : Value) (idx : List Nat) : Prop := h.get? it = some { cls := .type "itertools.combinations", dict := none, data := .fields (recC p st last idx), slots := #[] }
/-- the pool: the numbers below n -/
def IsPool (h : Heap) (p : Addr) (n : Nat) : Prop := ∃ acc, h.get? p = some { cls := .type "tuple", dict := none, data := .seq acc, slots := #[] } ∧ ItemsOf (fun i v => ∃ t, v = Value.int ((i : Nat) : Int) t) acc n
section
variable {prog : Program} {w : World} {A : Around} {E : Value → Shared → Prop} {s : Shared}
theorem numbers_at {it p : Addr} {st : Int} {last : Value} {idx : List Nat} {Q : List Nat → Shared → Prop} (hit : IsC s.heap it p st last idx) (h : Q idx s) : wpAny (model prog w) A (Builtin.Itertools.itNumbersFrom (.ref it) 3) Q E s := by
  unfold Builtin.Itertools.itNumbersFrom
  refine wpAny_bind (wpAny_load hit ?_)
  show wpAny _ _ (pure _) _ _ _
  refine wpAny_pure ?_
  have e : ((recC p st last idx).toList.drop 3).map (fun | .int n _ => n.toNat | _ => 0) = idx := by
    unfold recC
    rw [List.toList_toArray]
    show ((idx.map fun (i : Nat) => rawInt i)).map _ = idx
    rw [List.map_map]
    conv => rhs; rw [← List.map_id idx]
    exact List.map_congr_left fun j _ => by show ((j : Nat) : Int).toNat = j; exact Int.toNat_natCast j
  exact Eq.mpr (congrArg (fun l => Q l s) e) h
theorem field_at {it p : Addr} {st : Int} {last : Value} {idx : List Nat} {i : Nat} {x : Value} {Q : Value → Shared → Prop} (hit : IsC s.heap it p st last idx) (hx : (recC p st last idx)[i]? = some x) (h : Q x s) : wpAny (model prog w) A (field (.ref it) i) Q E s := wpAny_field hit rfl hx h
theorem state_at {it p : Addr} {st : Int} {last : Value} {idx : List Nat} {Q : Int → Shared → Prop} (hit : IsC s.heap it p st last idx) (h : Q st s) : wpAny (model prog w) A (Builtin.Itertools.itIntField (.ref it) 1) Q E s := by
  unfold Builtin.Itertools.itIntField
  exact wpAny_bind (field_at hit (x := rawInt st) rfl (wpAny_pure h))
theorem pick_at {p : Addr} {n : Nat} {idx : List Nat} {Q : Value → Shared → Prop} (hp : IsPool s.heap p n) (hb : ∀ j ∈ idx, j < n) (hl : idx.length ≤ 1000)
    (h : ∀ us : List Value, us.length = idx.length → (∀ (j k : Nat) , idx[j]? = some k → ∃ t, us[j]? = some (Value.int (k : Int) t)) → Q (.ref s.heap.objs.size) { s with heap := s.heap.push { cls := .type "tuple", data := .seq us.toArray } }) :
    wpAny (model prog w) A (Builtin.Itertools.itPoolItems (.ref p) >>= fun items => newTuple (idx.map fun i => items.getD i .none)) Q E s := by
  obtain ⟨acc, ho, hs, hi⟩ := hp
  refine wpAny_bind ?_
  unfold Builtin.Itertools.itPoolItems
  refine wpAny_bind (wpAny_seqItems ho rfl ?_)
  refine wpAny_pure ?_
  refine wpAny_newTuple (h _ (List.length_map _) fun j k e => ?_) (by rw [List.length_map]; exact Nat.le_trans hl (by decide))
  have kn := hb k (List.mem_of_getElem? e)
  rw [List.getElem?_map, e]
  have hk : k < acc.size := by rw [hs]; exact kn
  obtain ⟨t, ht⟩ := hi k _ (Array.getElem?_eq_getElem hk)
  refine ⟨t, ?_⟩
  show some (acc.getD k .none) = _
  rw [Array.getD_eq_getD_getElem?, Array.getElem?_eq_getElem hk, ← ht]
  rfl
theorem next_out {it p : Addr} {n : Nat} {last : Value} {idx : List Nat} {Q : Value → Shared → Prop} (hit : IsC s.heap it p 1 last idx) (hp : IsPool s.heap p n) (hb : ∀ j ∈ idx, j < n) (hl : idx.length ≤ 1000)
    (h : ∀ (h' : Heap) (us : List Value), us.length = idx.length → (∀ (j k : Nat) , idx[j]? = some k → ∃ t, us[j]? = some (Value.int (k : Int) t)) → IsC h' it p 1 (.ref s.heap.objs.size) idx → h'.get? s.heap.objs.size = some { cls := .type "tuple", data := .seq us.toArray } →
      (∀ b o, b ≠ it → s.heap.get? b = some o → h'.get? b = some o) → Q (.ref s.heap.objs.size) { s with heap := h' }) :
    wpAny (model prog w) A ((Builtin.Itertools.itPoolItems (.ref p) >>= fun items => newTuple (idx.map fun i => items.getD i .none)) >>= fun result => field (.ref it) 2 >>= fun before => setField (.ref it) 2 result >>= fun _ => letGo [before] [result] >>= fun _ => ret result) (fun fin s' => ∃ v, fin = .done (.ret v) ∧ Q v s') E s := by
  refine wpAny_bind (pick_at hp hb hl fun us hu hx => ?_)
  have lt := Heap.lt_size hit
  have hit2 : IsC (s.heap.push { cls := .type "tuple", data := .seq us.toArray }) it p 1 last idx := Heap.get?_push_of_some _ hit
  refine wpAny_bind (field_at (s := { s with heap := s.heap.push { cls := .type "tuple", data := .seq us.toArray } }) hit2 (x := last) rfl ?_)
  refine wpAny_bind (wpAny_setField hit2 rfl (by simp [recC]) ?_)
  refine wpAny_bind (wpAny_letGo (wpAny_pure ⟨_, rfl, h _ us hu hx ?_ ?_ ?_⟩))
  · show ((s.heap.push _).update it _).get? it = _
    rw [Heap.get?_update_self _ hit2 rfl]
    simp [recC, Obj.mapFields]
  · have ne : s.heap.objs.size ≠ it := Nat.ne_of_gt lt
    exact (Heap.SameBut.update ..).2 _ ne |>.trans (Heap.get?_push_size _ rfl)
  · intro b o hb' e
    exact ((Heap.SameBut.update ..).2 _ hb').trans (Heap.get?_push_of_some _ e)
theorem comb_first {it p : Addr} {n : Nat} {last : Value} {idx : List Nat} {Q : Option Value → Shared → Prop} (hit : IsC s.heap it p 0 last idx) (hp : IsPool s.heap p n) (hb : ∀ j ∈ idx, j < n) (hl : idx.length ≤ 1000)
    (h : ∀ (h' : Heap) (us : List Value), us.length = idx.length → (∀ (j k : Nat) , idx[j]? = some k → ∃ t, us[j]? = some (Value.int (k : Int) t)) → IsC h' it p 1 (.ref s.heap.objs.size) idx → h'.get? s.heap.objs.size = some { cls := .type "tuple", data := .seq us.toArray } →
      (∀ b o, b ≠ it → s.heap.get? b = some o → h'.get? b = some o) → Q (some (.ref s.heap.objs.size)) { s with heap := h' }) :
    wpAny (model prog w) A (callSpecial? (.ref it) "__next__") Q E s := by
  have hT : s.TypeIs (.ref it) "itertools.combinations" := ⟨_, hit, rfl⟩
  refine wpAny_callSpecial?_slot (name := Str.ofString "__next__") hT slot_c_next (wpAny_call_entry slot_c_next hT entry_c_next ?_ (args_c_next _))
  show wpAny _ _ (field (.ref it) 0 >>= _) _ _ s
  refine wpAny_bind (field_at hit (x := .ref p) rfl ?_)
  show wpAny _ _ (Builtin.Itertools.itNumbersFrom (.ref it) 3 >>= _) _ _ s
  refine wpAny_bind (numbers_at hit ?_)
  show wpAny _ _ (Builtin.Itertools.itIntField (.ref it) 1 >>= _) _ _ s
  refine wpAny_bind (state_at hit ?_)
  show wpAny _ _ (setField (.ref it) 1 (rawInt 1) >>= _) _ _ s
  refine wpAny_bind (wpAny_setField hit rfl (by simp [recC]) ?_)
  have sb := Heap.SameBut.update s.heap it (Obj.mapFields fun x => x.setIfInBounds 1 (rawInt 1))
  have hit2 : IsC (s.heap.update it (Obj.mapFields fun x => x.setIfInBounds 1 (rawInt 1))) it p 1 last idx := by
    show (s.heap.update it _).get? it = _
    rw [Heap.get?_update_self _ hit rfl]
    simp [recC, Obj.mapFields]
  have pit : p ≠ it := fun z => by
    obtain ⟨acc, ho, _⟩ := hp
    rw [z, hit] at ho
    exact absurd (Value.type.inj (congrArg Obj.cls (Option.some.inj ho))) (by decide)
  have hp2 : IsPool (s.heap.update it (Obj.mapFields fun x => x.setIfInBounds 1 (rawInt 1))) p n := by
    obtain ⟨acc, ho, r⟩ := hp
    exact ⟨acc, (sb.2 p pit).trans ho, r⟩
  refine next_out (s := { s with heap := s.heap.update it (Obj.mapFields fun x => x.setIfInBounds 1 (rawInt 1)) }) hit2 hp2 hb hl fun h' us hu hx hi ht hk => ?_
  have e : (s.heap.update it (Obj.mapFields fun x => x.setIfInBounds 1 (rawInt 1))).objs.size = s.heap.objs.size := sb.1
  rw [e] at hi ht ⊢
  exact h h' us hu hx hi ht fun b o hb e => hk b o hb ((sb.2 b hb).trans e)
theorem comb_more {it p : Addr} {n : Nat} {last : Value} {idx nx : List Nat} {Q : Option Value → Shared → Prop} (hit : IsC s.heap it p 1 last idx) (hp : IsPool s.heap p n) (hn : nextC n idx = some nx) (hb : ∀ j ∈ nx, j < n) (hl : nx.length ≤ 1000)
    (h : ∀ (h' : Heap) (us : List Value), us.length = nx.length → (∀ (j k : Nat) , nx[j]? = some k → ∃ t, us[j]? = some (Value.int (k : Int) t)) → IsC h' it p 1 (.ref s.heap.objs.size) nx → h'.get? s.heap.objs.size = some { cls := .type "tuple", data := .seq us.toArray } →
      (∀ b o, b ≠ it → s.heap.get? b = some o → h'.get? b = some o) → Q (some (.ref s.heap.objs.size)) { s with heap := h' }) :
    wpAny (model prog w) A (callSpecial? (.ref it) "__next__") Q E s := by
  have hT : s.TypeIs (.ref it) "itertools.combinations" := ⟨_, hit, rfl⟩
  refine wpAny_callSpecial?_slot (name := Str.ofString "__next__") hT slot_c_next (wpAny_call_entry slot_c_next hT entry_c_next ?_ (args_c_next _))
  show wpAny _ _ (field (.ref it) 0 >>= _) _ _ s
  refine wpAny_bind (field_at hit (x := .ref p) rfl ?_)
  show wpAny _ _ (Builtin.Itertools.itNumbersFrom (.ref it) 3 >>= _) _ _ s
  refine wpAny_bind (numbers_at hit ?_)
  show wpAny _ _ (Builtin.Itertools.itIntField (.ref it) 1 >>= _) _ _ s
  refine wpAny_bind (state_at hit ?_)
  show wpAny _ _ (Builtin.Itertools.itPoolItems (.ref p) >>= _) _ _ s
  obtain ⟨acc, ho, hs, hi⟩ := id hp
  refine wpAny_bind ?_
  unfold Builtin.Itertools.itPoolItems
  refine wpAny_bind (wpAny_seqItems ho rfl ?_)
  refine wpAny_pure ?_
  show wpAny _ _ (match nextC acc.size idx with | some next => _ | none => _) _ _ s
  rw [hs, hn]
  show wpAny _ _ (Builtin.Itertools.itSetNumbersFrom (.ref it) 3 nx >>= _) _ _ s
  refine wpAny_bind ?_
  unfold Builtin.Itertools.itSetNumbersFrom
  refine wpAny_updateFields hit rfl ?_ ?_
  · have sb := Heap.SameBut.update s.heap it (Obj.mapFields fun fs => fs.extract 0 3 ++ (nx.map fun (n : Nat) => rawInt n).toArray)
    have hit2 : IsC (s.heap.update it (Obj.mapFields fun fs => fs.extract 0 3 ++ (nx.map fun (n : Nat) => rawInt n).toArray)) it p 1 last nx := by
      show (s.heap.update it _).get? it = _
      rw [Heap.get?_update_self _ hit rfl]
      simp [recC, Obj.mapFields]
    have pit : p ≠ it := fun z => by
      rw [z, hit] at ho
      exact absurd (Value.type.inj (congrArg Obj.cls (Option.some.inj ho))) (by decide)
    have hp2 : IsPool (s.heap.update it (Obj.mapFields fun fs => fs.extract 0 3 ++ (nx.map fun (n : Nat) => rawInt n).toArray)) p n := ⟨acc, (sb.2 p pit).trans ho, hs, hi⟩
    refine next_out (s := { s with heap := s.heap.update it (Obj.mapFields fun fs => fs.extract 0 3 ++ (nx.map fun (n : Nat) => rawInt n).toArray) }) hit2 hp2 hb hl fun h' us hu hx hi ht hk => ?_
    have e : (s.heap.update it (Obj.mapFields fun fs => fs.extract 0 3 ++ (nx.map fun (n : Nat) => rawInt n).toArray)).objs.size = s.heap.objs.size := sb.1
    rw [e] at hi ht ⊢
    exact h h' us hu hx hi ht fun b o hb e => hk b o hb ((sb.2 b hb).trans e)
  · have a : ((recC p 1 last idx).extract 0 3 ++ (nx.map fun (n : Nat) => rawInt n).toArray).size ≤ 3 + 1000 := by
      rw [Array.size_append, Array.size_extract, List.size_toArray, List.size_toArray, List.length_map]
      omega
    exact Nat.le_trans a (by rw [sizeLine_eq]; decide)
theorem comb_end {it p : Addr} {n : Nat} {st : Int} {last : Value} {idx : List Nat} {Q : Option Value → Shared → Prop} (hh : A.handled = none) (hit : IsC s.heap it p st last idx) (hp : IsPool s.heap p n) (hs : st = 2 ∨ (st = 1 ∧ nextC n idx = none))
    (hQ : ∀ e h', CpRep.StopE e h' → Heap.ExtBut it s.heap h' → E e { s with heap := h' }) : wpAny (model prog w) A (callSpecial? (.ref it) "__next__") Q E s := by
  have hT : s.TypeIs (.ref it) "itertools.combinations" := ⟨_, hit, rfl⟩
  refine wpAny_callSpecial?_slot (name := Str.ofString "__next__") hT slot_c_next (wpAny_call_entry slot_c_next hT entry_c_next ?_ (args_c_next _))
  show wpAny _ _ (field (.ref it) 0 >>= _) _ _ s
  refine wpAny_bind (field_at hit (x := .ref p) rfl ?_)
  show wpAny _ _ (Builtin.Itertools.itNumbersFrom (.ref it) 3 >>= _) _ _ s
  refine wpAny_bind (numbers_at hit ?_)
  show wpAny _ _ (Builtin.Itertools.itIntField (.ref it) 1 >>= _) _ _ s
  refine wpAny_bind (state_at hit ?_)
  have stop : ∀ {h0 : Heap}, Heap.ExtBut it s.heap h0 → wpAny (model prog w) A.in1 (Builtin.Itertools.itStop : Sem Fin) (fun fin s' => ∃ v, fin = .done (.ret v) ∧ Q (some v) s') E { s with heap := h0 } := fun {h0} eb => by
    unfold Builtin.Itertools.itStop
    show wpAny _ _ (newExc (.type "StopIteration") [] >>= _) _ _ _
    refine wpAny_bind ?_
    simp only [newExc, newTuple]
    refine wpAny_bind (wpAny_newObj_type ?_ (by size_fits))
    refine wpAny_bind (m := firstArgMember _ _) (wpAny_of_eq (a := Value.none) (by first | rfl | (simp only [firstArgMember]; rfl)) ?_)
    refine wpAny_newObj_type ?_ (by size_fits)
    simp only [raiseNew]
    refine wpAny_bind (wpAny_handled ?_)
    first | rw [show A.in1.handled = none from hh] | rw [hh]
    refine wpAny_bind (wpAny_pure (wpAny_throw ?_))
    exact hQ _ _ ⟨_, _, _, rfl, Heap.get?_push_size _ rfl, rfl, rfl, rfl⟩ ((eb.push _).push _)
  rcases hs with rfl | ⟨rfl, hn⟩
  · show wpAny _ _ (PySem.rule "itertools.combinations.ended" >>= _) _ _ s
    exact wpAny_bind (wpAny_rule (stop (Heap.ExtBut.refl it s.heap)))
  · show wpAny _ _ (Builtin.Itertools.itPoolItems (.ref p) >>= _) _ _ s
    obtain ⟨acc, ho, hs, hi⟩ := id hp
    refine wpAny_bind ?_
    unfold Builtin.Itertools.itPoolItems
    refine wpAny_bind (wpAny_seqItems ho rfl ?_)
    refine wpAny_pure ?_
    show wpAny _ _ (match nextC acc.size idx with | some next => _ | none => _) _ _ s
    rw [hs, hn]
    show wpAny _ _ (setField (.ref it) 1 (rawInt 2) >>= _) _ _ s
    refine wpAny_bind (wpAny_setField hit rfl (by simp [recC]) ?_)
    exact stop (Heap.SameBut.update ..).extBut
theorem iter_self {it p : Addr} {st : Int} {last : Value} {idx : List Nat} {Q : Value → Shared → Prop} (hit : IsC s.heap it p st last idx) (h : Q (.ref it) s) : wpAny (model prog w) A (pyIter (.ref it)) Q E s := by
  have hT : s.TypeIs (.ref it) "itertools.combinations" := ⟨_, hit, rfl⟩
  refine wpAny_pyIter_slot hT slot_c_iter (wpAny_call_entry slot_c_iter hT entry_c_iter ?_ (args_c_iter _))
  show wpAny _ _ (ret (.ref it)) _ _ s
  exact wpAny_pure ⟨_, rfl, "itertools.combinations", _, hT, slot_c_next.lookup, h⟩
theorem next_of {it : Addr} {Q : Option Value → Shared → Prop} (h : wpAny (model prog w) A (callSpecial? (.ref it) "__next__") (fun r s' => r.isSome = true ∧ Q r s') (fun e s' => CpRep.StopE e s'.heap ∧ Q none s') s) : wpAny (model prog w) A (pyNext (.ref it)) Q E s := by
  unfold pyNext
  refine wpAny_bind (wpAny_attempt (wpAny_mono h (fun r s' q => ?_) fun e s' q => ?_))
  · cases r with
    | none => cases q.1
    | some v => exact wpAny_pure q.2
  · obtain ⟨⟨a, o, vs, rfl, ho, hc, hd, _⟩, q⟩ := q
    refine wpAny_bind (wpAny_isInstance (T := "StopIteration") (b := true) ⟨o, ho, hc⟩ isSubtype_stop ?_)
    exact wpAny_pure q
end
end Cmb

namespace Cmb
open PySem PySem.Spec PyProof.Rows L2
theorem class_at (rest : List Value) : Builtin.Itertools.itClassAndRest "combinations" ⟨.type "itertools.combinations" :: rest, []⟩ = pure (.type "itertools.combinations", rest) := by
  unfold Builtin.Itertools.itClassAndRest
  show (isSubtype (.type "itertools.combinations") (.type "itertools.combinations") >>= _) = _
  rw [sub_c]
  rfl
theorem bind_at (a b : Value) : Builtin.Itertools.itBindNamed "combinations" ["iterable", "r"] 2 2 [a, b] [] = pure [some a, some b] := by kernel_rfl
theorem ssize_at {r : Nat} {t : Tok} (h : r ≤ 1000) : Builtin.Itertools.itSsizeArg (.int r t) = pure (r : Int) := by
  unfold Builtin.Itertools.itSsizeArg
  show (if (decide ((r : Int) < -(2 ^ 63 : Int)) || decide ((r : Int) ≥ 2 ^ 63)) = true then _ else _) = _
  rw [decide_eq_false (by omega : ¬ ((r : Int) < -(2 ^ 63 : Int))), decide_eq_false (by omega : ¬ ((r : Int) ≥ 2 ^ 63))]
  rfl
theorem plain_c_new : plainId "itertools.combinations.__new__" = true := by decide +kernel
section
variable {prog : Program} {w : World} {A : Around} {E : Value → Shared → Prop} {s : Shared}
theorem code_c_new {rg : Addr} {n r : Nat} {t u v tr : Tok} {Q₁ : Value → Shared → Prop} (hh : A.handled = none) (hr : IsRange s.heap rg 0 n 1 t u v) (n1000 : n ≤ 1000) (r1000 : r ≤ 1000)
    (h : ∀ (h1 h' : Heap) (tk : Nat), (∀ b o, s.heap.get? b = some o → h1.get? b = some o) → (∀ b o, h1.get? b = some o → h'.get? b = some o) → IsPool h' h1.objs.size n → IsC h' (h1.objs.size + 1) h1.objs.size (if r > n then 2 else 0) .none (List.range r) → Q₁ (.ref (h1.objs.size + 1)) { s with heap := h', toks := tk }) :
    codeAny (model prog w) A (.call (.builtin "itertools.combinations.__new__") ⟨[.type "itertools.combinations", .ref rg, .int r tr], []⟩) (wants Q₁ E) s := by
  refine codeAny_of_tree ?_
  show wpAny _ A.in1 (do checkBuiltinCall "itertools.combinations.__new__" ⟨[.type "itertools.combinations", .ref rg, .int r tr], []⟩; again (.builtin "itertools.combinations.__new__" ⟨[.type "itertools.combinations", .ref rg, .int r tr], []⟩)) _ _ s
  refine wpAny_bind (wpAny_of_eq (newCall_c_2 _ _) (wpAny_pure ⟨plainId_quiet plain_c_new _, codeAny_builtin entry_c_new ?_⟩))
  rw [Around.under_plainId plain_c_new _]
  have hsub := sub_c
  have hd := noDict_c
  have hTI : s.TypeIs (.ref rg) "range" := ⟨_, hr, rfl⟩
  have hh1 : A.in1.handled = none := hh
  have hsmall : Builtin.Range.small 0 n 1 = true := small_one (by omega) (by omega) (by omega) (by omega)
  have hn : Builtin.Range.rangeSize 0 n 1 = n := by rw [rangeSize_one]; split <;> omega
  unfold Builtin.«itertools.combinations.__new__»
  refine wpAny_bind ?_
  show wpAny _ _ (Builtin.Itertools.itClassAndRest "combinations" ⟨.type "itertools.combinations" :: [.ref rg, .int r tr], []⟩ >>= _) _ _ s
  refine wpAny_bind (wpAny_of_eq (class_at _) ?_)
  show wpAny _ _ (Builtin.Itertools.itBindNamed "combinations" ["iterable", "r"] 2 2 [.ref rg, .int r tr] [] >>= _) _ _ s
  refine wpAny_bind (wpAny_of_eq (bind_at _ _) ?_)
  show wpAny _ _ (Builtin.Itertools.itSsizeArg (.int r tr) >>= _) _ _ s
  refine wpAny_bind (wpAny_of_eq (ssize_at r1000) ?_)
  show wpAny _ _ (collect (.ref rg) >>= _) _ _ s
  refine wpAny_bind (collect_range hh1 hr hsmall hn (by omega) fun h' tk acc hk hacc => ?_)
  show wpAny _ _ (if ((r : Int) < 0) then _ else _) _ _ _
  rw [if_neg (by omega)]
  show wpAny _ _ (if Builtin.Itertools.itTooMany (r : Int) = true then _ else _) _ _ _
  have tm : Builtin.Itertools.itTooMany (r : Int) = false := decide_eq_false (by omega)
  rw [if_neg (by rw [tm]; decide)]
  show wpAny _ _ (newTuple acc.toList >>= _) _ _ _
  have al : acc.toList.length = n := by rw [Array.length_toList, hacc.1]
  refine wpAny_bind (wpAny_newTuple ?_ (by rw [al]; exact Nat.le_trans n1000 (by decide)))
  refine wpAny_pure ?_
  show wpAny _ _ (Builtin.Itertools.itNewRecord (.type "itertools.combinations") ([.ref h'.objs.size, rawInt (if (r : Int).toNat > acc.toList.length then 2 else 0), .none] ++ (List.range (r : Int).toNat).map fun (i : Nat) => rawInt i) >>= _) _ _ _
  refine wpAny_bind ?_
  unfold Builtin.Itertools.itNewRecord
  rw [al, Int.toNat_natCast, if_pos (by rw [hd]; rfl)]
  have sz1 : (h'.push { cls := .type "tuple", data := .seq acc.toList.toArray }).objs.size = h'.objs.size + 1 := by simp [Heap.push]
  refine wpAny_newObj_type ?_ ?_
  · refine wpAny_pure ?_
    rw [sz1]
    refine h h' _ _ hk (fun b o e => Heap.get?_push_of_some _ (Heap.get?_push_of_some _ e)) ⟨acc, ?_, ?_⟩ ?_
    · refine Heap.get?_push_of_some _ ?_
      rw [Heap.get?_push_size _ rfl, Array.toArray_toList]
    · exact ⟨hacc.1, fun j v e => by
        obtain ⟨t, ht⟩ := hacc.2 j v e
        exact ⟨t, by rw [ht, Int.zero_add, Int.mul_one]⟩⟩
    · show ((h'.push _).push _).get? (h'.objs.size + 1) = _
      rw [← sz1]
      exact Heap.get?_push_size _ (by rfl)
  · show ((([Value.ref h'.objs.size, rawInt (if r > n then 2 else 0), Value.none] ++ (List.range r).map fun (i : Nat) => rawInt i).toArray).size ≤ sizeLine + 2)
    rw [List.size_toArray, List.length_append, List.length_map, List.length_range, sizeLine_eq]
    show 3 + r ≤ _
    omega
end
end Cmb

namespace Cmb
open PySem PySem.Spec PyProof.Rows L2
theorem combs_low (n : Nat) : ∀ r d lo, lo + d = n → ∀ l ∈ combs n r d lo, ∀ j ∈ l, lo ≤ j ∧ j < n
  | 0, d, lo, _, l, h, j, hj => by
    cases d <;> (rw [combs] at h; rw [List.mem_singleton] at h; rw [h] at hj; cases hj)
  | r + 1, 0, lo, _, l, h, j, hj => by
    rw [combs] at h
    cases h
  | r + 1, d + 1, lo, e, l, h, j, hj => by
    rw [combs, List.mem_append, List.mem_map] at h
    rcases h with ⟨t, ht, rfl⟩ | h
    · rcases List.mem_cons.mp hj with rfl | hj
      · omega
      · have := combs_low n r d (lo + 1) (by omega) t ht j hj
        omega
    · have := combs_low n (r + 1) d (lo + 1) (by omega) l h j hj
      omega
theorem choices_low {n r : Nat} {l : List Nat} (h : l ∈ choices n r) : ∀ j ∈ l, j < n := fun j hj => (combs_low n r n 0 (Nat.zero_add n) l h j hj).2
def natT (l : List Nat) : List V := l.map fun (j : Nat) => V.int (j : Int)
/-- one choice after the other, each a new tuple -/
def YC (n r : Nat) (i : Nat) (H : Hp) (x : V) (H' : Hp) : Prop := ∃ (T : Addr) (l : List Nat), x = .ref T ∧ H T = none ∧ (choices n r)[i]? = some l ∧ H' = upd H T (.tup (natT l))
def Itcb (n r : Nat) : It := ⟨fun i _ => i < (choices n r).length, YC n r, fun i _ => (choices n r).length ≤ i⟩
/-- the iterator's state ahead of turn i -/
def St (n r : Nat) (it p : Addr) (i : Nat) (h : Heap) : Prop := p ≠ it ∧ IsPool h p n ∧ match i with
  | 0 => ∃ last, IsC h it p (if r > n then 2 else 0) last (List.range r)
  | i + 1 => ∃ last l, (choices n r)[i]? = some l ∧ IsC h it p 1 last l
theorem turn_comb {P : Program} {w : World} {K : PySem.W.Frag} {tg : Expr} (it p : Addr) (n r : Nat) (r1000 : r ≤ 1000) : Turn P w K tg (Itcb n r) [it, p] it (St n r it p) where
  mem := by simp
  obj := fun i h st b hb => by
    obtain ⟨ne, ⟨acc, hp, _⟩, hi⟩ := st
    have e' : b = it ∨ b = p := by simpa using hb
    rcases e' with z | z
    · rw [z]
      cases i with
      | zero => obtain ⟨last, hi⟩ := hi; exact ⟨_, hi, fun v q => nomatch (show Data.fields _ = Data.cell v from q)⟩
      | succ i => obtain ⟨last, l, _, hi⟩ := hi; exact ⟨_, hi, fun v q => nomatch (show Data.fields _ = Data.cell v from q)⟩
    · rw [z]
      exact ⟨_, hp, fun v q => nomatch (show Data.seq _ _ = Data.cell v from q)⟩
  keep := fun i h h' st k => by
    obtain ⟨ne, ⟨acc, hp, hs⟩, hi⟩ := st
    refine ⟨ne, ⟨acc, k p (by simp) _ hp, hs⟩, ?_⟩
    cases i with
    | zero => obtain ⟨last, hi⟩ := hi; exact ⟨last, k it (by simp) _ hi⟩
    | succ i => obtain ⟨last, l, e, hi⟩ := hi; exact ⟨last, l, e, k it (by simp) _ hi⟩
  item := by
    intro X hP hw hK hc i pins s σ H E I hf st hg
    subst hP hw hK
    obtain ⟨ne, pool, hi⟩ := st
    have hil : it < s.heap.objs.size := by
      cases i with
      | zero => obtain ⟨last, hi⟩ := hi; exact Heap.lt_size hi
      | succ i => obtain ⟨last, l, _, hi⟩ := hi; exact Heap.lt_size hi
    have hpl : p < s.heap.objs.size := by
      obtain ⟨acc, hp, _⟩ := pool
      exact Heap.lt_size hp
    have gl : i < (choices n r).length := hg
    obtain ⟨nx, enx⟩ : ∃ nx, (choices n r)[i]? = some nx := ⟨_, List.getElem?_eq_getElem gl⟩
    have low := choices_low (List.mem_of_getElem? enx)
    have len := choices_len (List.mem_of_getElem? enx)
    have fin : ∀ (h' : Heap) (us : List Value), us.length = nx.length → (∀ (j k : Nat) , nx[j]? = some k → ∃ t, us[j]? = some (Value.int (k : Int) t)) → IsC h' it p 1 (.ref s.heap.objs.size) nx → h'.get? s.heap.objs.size = some { cls := .type "tuple", data := .seq us.toArray } →
        (∀ b o, b ≠ it → s.heap.get? b = some o → h'.get? b = some o) →
        ∃ u, (some (Value.ref s.heap.objs.size)) = some u ∧ wpAny (model X.prog X.w) X.A (letOwnedTupleGo tg (.ref it) u) (fun _ s2 => ∃ x H', Inv X pins σ H' s2 ∧ RelV x u ∧ (Itcb n r).yld i H x H' ∧ St n r it p (i + 1) s2.heap ∧ ∀ b ∈ [it, p], H' b = none) E { s with heap := h' } := fun h' us hu hx hi ht hk => by
      have rel : Vals (natT nx) us := vals_of_at (by unfold natT; rw [List.length_map, hu]) fun j x u e1 e2 => by
        unfold natT at e1
        rw [List.getElem?_map] at e1
        cases e3 : nx[j]? with
        | none => rw [e3] at e1; cases e1
        | some k =>
          rw [e3] at e1
          cases e1
          obtain ⟨t, e4⟩ := hx j k e3
          rw [e4] at e2
          cases e2
          exact ⟨t, rfl⟩
      have new : ObjOk X.prog X.w (upd H s.heap.objs.size (.tup (natT nx))) h' s.heap.objs.size (.tup (natT nx)) :=
        ⟨by unfold natT; rw [List.length_map, len]; exact Nat.le_trans r1000 (by decide), us, rel, ⟨_, ht, rfl, _, rfl⟩⟩
      have I1 : Inv X pins σ (upd H s.heap.objs.size (.tup (natT nx))) { s with heap := h', toks := s.toks } :=
        I.turnedNew (ch := [it, p]) (fun b ob hb q => hk b ob (fun z => hb (by simp [z])) q) hf (Nat.le_refl _) new
      refine ⟨_, rfl, go_of (s := { s with heap := h' }) (n := "itertools.combinations") hi rfl rfl (by decide) ⟨.ref s.heap.objs.size, _, I1, rfl, ⟨_, nx, rfl, I.hok.fresh (Nat.le_refl _), enx, rfl⟩, ⟨ne, ?_, _, nx, enx, hi⟩, fun b hb => ?_⟩⟩
      · obtain ⟨acc, hp, hs⟩ := pool
        exact ⟨acc, hk p _ ne hp, hs⟩
      · have hb' : b < s.heap.objs.size := by
          have e' : b = it ∨ b = p := by simpa using hb
          rcases e' with z | z
          · rw [z]; exact hil
          · rw [z]; exact hpl
        rw [upd_ne (Nat.ne_of_lt hb')]
        exact (hf b hb).1
    refine next_of ?_
    cases i with
    | zero =>
      obtain ⟨last, hi⟩ := hi
      have rn : r ≤ n := by
        rcases Nat.lt_or_ge n r with z | z
        · rw [choices_none z] at gl
          cases gl
        · exact z
      have st0 : (if r > n then (2 : Int) else 0) = 0 := if_neg (by omega)
      rw [st0] at hi
      rw [choices_first rn] at enx
      cases enx
      exact comb_first hi pool low (by rw [len]; exact r1000) fun h' us a b c d e => ⟨rfl, fin h' us a b c d e⟩
    | succ i =>
      obtain ⟨last, l, e, hi⟩ := hi
      have hn := choices_next e
      rw [enx] at hn
      exact comb_more hi pool hn low (by rw [len]; exact r1000) fun h' us a b c d e => ⟨rfl, fin h' us a b c d e⟩
  done := by
    intro X hP hw hK hc i pins s σ H E I hf st hg
    subst hP hw hK
    obtain ⟨ne, pool, hi⟩ := st
    obtain ⟨f0, f1, f2, f3, f4, f5⟩ := hf it (by simp)
    have gl : (choices n r).length ≤ i := hg
    refine next_of ?_
    have fin : ∀ e h', CpRep.StopE e h' → Heap.ExtBut it s.heap h' → CpRep.StopE e h' ∧ ((none : Option Value) = none ∧ Inv X pins σ H { s with heap := h' }) := fun e h' se eb => ⟨se, rfl, I.turned (t' := s.toks) (fun b o hb e => eb b o hb e) f0 f1 f3 f4 f5⟩
    cases i with
    | zero =>
      obtain ⟨last, hi⟩ := hi
      have rn : r > n := by
        rcases Nat.lt_or_ge n r with z | z
        · exact z
        · have := choices_first z
          rw [List.length_eq_zero_iff.mp (Nat.le_zero.mp gl)] at this
          cases this
      exact comb_end (I.ok.hd hc) hi pool (.inl (if_pos rn)) fin
    | succ i =>
      obtain ⟨last, l, e, hi⟩ := hi
      have hn := choices_next e
      rw [List.getElem?_eq_none gl] at hn
      exact comb_end (I.ok.hd hc) hi pool (.inr ⟨rfl, hn⟩) fin
  self := fun A i s Q E st h => by
    obtain ⟨ne, pool, hi⟩ := st
    cases i with
    | zero => obtain ⟨last, hi⟩ := hi; exact iter_self hi h
    | succ i => obtain ⟨last, l, e, hi⟩ := hi; exact iter_self hi h
section
variable {X : Cx} {tg : Expr}
theorem cr_range1 : CallR X (.type "range") (fun vs H Q => ∃ j, vs = [V.int j] ∧ ∀ p, H p = none → Q (.ref p) (upd H p (.rng 0 j))) := by
  intro pins s σ H vs us Q I r h
  obtain ⟨j, rfl, q⟩ := h
  obtain ⟨u1, rfl, rj⟩ := vals1 r
  obtain ⟨t, rfl⟩ := rj
  refine call_range_1 ⟨.ref s.heap.objs.size, upd H s.heap.objs.size (.rng 0 j), I.laid (t' := s.toks + 1 + 1) (fun b o e => Heap.get?_push_of_some _ e) (Nat.le_refl _) ?_, rfl, q _ (I.hok.fresh (Nat.le_refl _))⟩
  exact ⟨s.toks, t, s.toks + 1, Heap.get?_push_size _ rfl⟩
/-- combinations(range(..), r) walked -/
def iComb (ta : TA) : TI := fun σ H R => ta σ H fun vs H1 => ∃ (a : Addr) (n r : Nat), vs = [.ref a, .int r] ∧ H1 a = some (.rng 0 n) ∧ n ≤ 1000 ∧ r ≤ 1000 ∧ R (Itcb n r) H1
theorem pi_comb {e e2 : Expr} {ta : TA} {p pos : Pos} {x : Str} (hg : Gl X x) (hm : X.mg x = some (.type "itertools.combinations")) (ha : PA X [e, e2] ta) (hcalm : X.calm = true := by rfl) (hdb : (x == ("__debug__" : Str)) = false := by decide)
    (hs : starEach [e, e2] X.env = [(false, eval e X.env), (false, eval e2 X.env)] := by rfl) (hs2 : starEach [e2] X.env = [(false, eval e2 X.env)] := by rfl) : PI X tg (.Call (.Name x p) [e, e2] [] pos) (iComb ta) := by
  refine ⟨fun pins s σ H R I h => ?_⟩
  refine Call_ (ld_glob I hg hm (PyProof.Rows.callWith_type1 (thn (ha.run pos pins s σ H _ I h) fun us s1 ⟨vs, H1, I1, r1, q1⟩ => ?_) (by rw [hs, hs2]) (by rw [hs2]; rfl)) hdb)
  obtain ⟨a, n, r, ex, hr, n1, r1', q⟩ := q1
  subst ex
  cases r1 with
  | cons ra rr =>
    cases rr with
    | cons rb rr =>
      cases rr
      cases ra
      obtain ⟨t, rfl⟩ := rb
      obtain ⟨t1, t2, t3, hrg⟩ := (show ObjOk X.prog X.w H1 s1.heap a (.rng 0 n) from I1.hok _ _ hr)
      refine callType_codes (Q₁ := fun obj s₁ => s₁.TypeIs obj "itertools.combinations" ∧ wpAny (model X.prog X.w) X.A (pyIter obj) (PIE X pins σ tg R) X.xe s₁) called_c (typeCall_c_2 _ _) F.entry_object_init
        (code_c_new (A := X.A.in1) (I1.ok.hd hcalm) hrg n1 r1' fun h1 h' tk k1 k2 pool hc => ⟨⟨_, hc, rfl⟩, ?_⟩) fun obj s₁ h₁ => ?_
      · have I2 : Inv X pins σ H1 { s1 with heap := h1, toks := tk } := I1.kept k1
        have I3 : Inv X pins σ H1 { s1 with heap := h', toks := tk } := I2.kept (t' := tk) k2
        refine iter_self hc ?_
        refine ⟨h1.objs.size + 1, [h1.objs.size + 1, h1.objs.size], _, _, H1, rfl, I3, turn_comb (h1.objs.size + 1) h1.objs.size n r r1', ⟨(Nat.succ_ne_self _).symm, pool, _, hc⟩, fun b hb => ?_, q⟩
        have e' : b = h1.objs.size + 1 ∨ b = h1.objs.size := by simpa using hb
        have hle : h1.objs.size ≤ b := by
          rcases e' with z | z
          · rw [z]; exact Nat.le_add_right _ _
          · rw [z]; exact Nat.le_refl _
        have f0 := I2.fpOk (H' := H1) hle (I2.hok.fresh hle)
        exact f0
      · exact ⟨h₁.1, F.args_object_init_3 obj _ _, object_init_meets called_c.init.lookup called_c.made (by decide +kernel) X.prog X.w X.A.in1 _ s₁ ⟨h₁.1, rfl, h₁.2⟩⟩
theorem walk_comb {n r : Nat} : Walk (Itcb n r) (choices n r).length (fun _ => True) (YC n r) := ⟨fun _ _ h _ => h, fun _ _ => Nat.le_refl _, fun _ _ _ _ _ _ y => y⟩
end
end Cmb

/-! Places within a text: a block's statement, a statement's block, its expression, an expression's part. -/
namespace GL
open PySem PySem.Spec PyProof.Rows L2
def wS (l : List Stmt) (i : Nat) : Stmt := l.getD i (.Pass ⟨0, 0, 0, 0⟩)
def wN : Expr := .Name "" ⟨0, 0, 0, 0⟩
def wX : Stmt → Nat → Expr
  | .Return (some e) _, 0 => e
  | .Assign _ e _, 0 => e
  | .Assign ts _ _, n => ts.getD (n - 1) wN
  | .AugAssign _ _ e _, 0 => e
  | .AugAssign t _ _ _, _ => t
  | .Expr e _, _ => e
  | .If c _ _ _, _ => c
  | .While c _ _ _, _ => c
  | .For _ i _ _ _, 0 => i
  | .For t _ _ _ _, _ => t
  | .Raise (some e) _ _, _ => e
  | .Delete ts _, n => ts.getD n wN
  | _, _ => wN
def wC : Expr → Scope
  | .ListComp _ _ sc _ => sc
  | .DictComp _ _ _ sc _ => sc
  | _ => { kind := .function, names := [], isGenerator := false, isCoroutine := false }
abbrev rMax2 : List V → Hp → VK → Prop := fun xs H Q => ∃ i j, xs = [V.int i, V.int j] ∧ Q (V.int (if j > i then j else i)) H
abbrev rMin2 : List V → Hp → VK → Prop := fun xs H Q => ∃ i j, xs = [V.int i, V.int j] ∧ Q (V.int (if j < i then j else i)) H
abbrev rInt1 : List V → Hp → VK → Prop := fun xs H Q => (∃ i, xs = [V.int i] ∧ Q (V.int i) H) ∨ ∃ k, xs = [V.bl k] ∧ Q (V.int (if k = true then 1 else 0)) H
end GL

namespace GL
open PySem PySem.Spec PyProof.Rows L2
section
variable {P : Program} {w : World} {K : PySem.W.Frag} {mg : Str → Option Value} {base : Heap}
/-- the built-in names that the text uses are still the built-in ones -/
structure Bi (mg : Str → Option Value) : Prop where
  int : mg "int" = none
  len : mg "len" = none
  sum : mg "sum" = none
  max : mg "max" = none
  min : mg "min" = none
  range : mg "range" = none
  isinstance : mg "isinstance" = none
  bool : mg "bool" = none
  list : mg "list" = none
  tuple : mg "tuple" = none
  all : mg "all" = none
  enumerate : mg "enumerate" = none
  repr : mg "repr" = none
  zip : mg "zip" = none
  any : mg "any" = none
  set : mg "set" = none
  sorted : mg "sorted" = none
def spHash : Sp := fun vs H Q _ => ∃ b c : Int, vs = [.int b, .int c] ∧ 0 ≤ b ∧ b < 2147483647 ∧ 0 ≤ c ∧ c < 1099511627776 ∧ ∀ r : Int, 0 ≤ r → r < 2147483647 → Q (.int r) H
/-- a list of three numbers that is drawn from: n are the draws' steps that are left -/
def Gen (H : Hp) (g : Addr) (n : Nat) : Prop := ∃ a b c : Int, H g = some (.lst [.int a, .int b, .int c]) ∧ 0 ≤ b ∧ b < 2147483647 ∧ 0 ≤ c ∧ c + n ≤ 1099511627000
theorem Gen.less {H : Hp} {g : Addr} {n m : Nat} (h : Gen H g n) (l : m ≤ n) : Gen H g m := by
  obtain ⟨a, b, c, h1, h2, h3, h4, h5⟩ := h
  exact ⟨a, b, c, h1, h2, h3, h4, by omega⟩
/-- all that was tracked but g is as it was -/
def But (g : Addr) (H H' : Hp) : Prop := ∀ b o, H b = some o → b ≠ g → H' b = some o
theorem But.refl {g : Addr} {H : Hp} : But g H H := fun _ _ e _ => e
theorem But.trans {g : Addr} {H H1 H2 : Hp} (a : But g H H1) (b : But g H1 H2) : But g H H2 := fun c o e n => b c o (a c o e n) n
theorem But.of {g : Addr} {H H' : Hp} (s : Same H H') : But g H H' := fun b o e _ => s b o e
theorem But.new {g p : Addr} {H : Hp} {o : HO} (h : H p = none) : But g H (upd H p o) := .of (same_new h)
theorem But.put {g : Addr} {H : Hp} {o : HO} : But g H (upd H g o) := fun b o' e n => by rw [upd_ne n]; exact e
theorem Gen.ne {H : Hp} {g p : Addr} {n : Nat} (h : Gen H g n) (e : H p = none) : g ≠ p := by
  obtain ⟨a, b, c, h1, _⟩ := h
  exact ne_of_none h1 e
theorem Gen.new {H : Hp} {g p : Addr} {n : Nat} {o : HO} (h : Gen H g n) (e : H p = none) : Gen (upd H p o) g n := by
  have ne := h.ne e
  obtain ⟨a, b, c, h1, r⟩ := h
  exact ⟨a, b, c, by rw [upd_ne ne]; exact h1, r⟩
theorem Gen.other {H : Hp} {g p : Addr} {n : Nat} {o : HO} (h : Gen H g n) (ne : p ≠ g) : Gen (upd H p o) g n := by
  obtain ⟨a, b, c, h1, r⟩ := h
  exact ⟨a, b, c, by rw [upd_ne ne.symm]; exact h1, r⟩
def spRandom : Sp := fun vs H Q _ => ∃ (g : Addr) (m : Int) (n : Nat), vs = [.ref g, .int m] ∧ 0 < m ∧ m < 1329227995784915872903807060280344576 ∧ Gen H g (n + 5) ∧
  ∀ (r : Int) (H' : Hp), 0 ≤ r → r < m → Gen H' g n → But g H H' → Q (.int r) H'
theorem bits_le {m : Int} (h0 : 0 < m) (h : m < 1329227995784915872903807060280344576) : (Builtin.Int.intBits m : Int) / 30 ≤ 4 ∧ 0 ≤ (Builtin.Int.intBits m : Int) / 30 := by
  have l : m.natAbs < 2 ^ 120 := by omega
  have b : Builtin.Int.intBits m ≤ 120 := by
    have x := PySem.Flt.log2_lt_of (by decide : 0 < 120) l
    unfold Builtin.Int.intBits
    split <;> omega
  omega
theorem cut_ints (ns : List Int) (lo hi : Option Int) : ∃ l : List Int, cutV (ns.map V.int) lo hi = l.map V.int ∧ l.length ≤ ns.length := by
  refine ⟨(ns.drop (HT.sIx (ns.map V.int).length 0 lo)).take (HT.sIx (ns.map V.int).length (ns.map V.int).length hi - HT.sIx (ns.map V.int).length 0 lo), ?_, ?_⟩
  · unfold cutV
    rw [← List.map_drop, ← List.map_take]
  · rw [List.length_take, List.length_drop]
    omega
def spCell (K : PySem.W.Frag) : Sp := fun vs H Q _ => ∃ (a : Addr) (ns : List Int) (i : Nat), vs = [.ref a, .int i] ∧ SqL K H a (ns.map V.int) ∧ ∀ (r : Int) (H' : Hp), Same H H' → Q (.int r) H'
def spGen (K : PySem.W.Frag) : Sp := fun vs H Q _ => ∃ (a : Addr) (ns : List Int) (i : Nat), vs = [.ref a, .int i] ∧ i ≤ 100 ∧ SqL K H a (ns.map V.int) ∧ ∀ (g : Addr) (H' : Hp), Same H H' → H g = none → Gen H' g 1000000 → Q (.ref g) H'
theorem pow60 : CPowW ((10 : Int) ^ (60 : Int).toNat) 10 := ⟨by decide, by decide +kernel⟩
theorem pow600 : (0 : Int) < ((10 : Int) ^ (60 : Int).toNat) ^ (10 : Int).toNat := Int.pow_pos (Int.pow_pos (by decide))
def whole (d : PyData) : Bool := isInt d && !isBool d
def below (k : Int) : PyData → Bool
  | .int i => decide (0 ≤ i) && decide (i < k)
  | _ => false
def rowOk (k n : Int) : PyData → Bool
  | .list ds => decide ((ds.length : Int) = n) && ds.all (below k)
  | _ => false
def rowsOk (k : Int) : Nat → List PyData → Bool
  | _, [] => true
  | n, d :: ds => rowOk k n d && rowsOk k (n + 1) ds
def compOk (k : Int) : PyData → Bool
  | .list ds => (decide (1 ≤ ds.length) && decide (ds.length ≤ 40)) && rowsOk k 0 ds
  | _ => false
def spWhole (K : PySem.W.Frag) : Sp := fun vs H Q _ => ∃ x d, vs = [x] ∧ Dt K H x d ∧ Q (.bl (whole d)) H
def spBelow (K : PySem.W.Frag) : Sp := fun vs H Q _ => ∃ x d k, vs = [x, .int k] ∧ Dt K H x d ∧ Q (.bl (below k d)) H
theorem whole_cases (d : PyData) : (∃ i, d = .int i ∧ whole d = true) ∨ (whole d = false ∧ ∀ k, below k d = false) := by
  cases d with
  | int i => exact .inl ⟨i, rfl, rfl⟩
  | _ => exact .inr ⟨rfl, fun _ => rfl⟩
def spRow (K : PySem.W.Frag) : Sp := fun vs H Q _ => ∃ x d k n, vs = [.int k, .int n, x] ∧ n ≤ 1000 ∧ Dt K H x d ∧ ∀ H', Same H H' → Q (.bl (rowOk k n d)) H'
theorem take_more {α β : Type} (f : α → β) {l : List α} {i : Nat} {x : α} (h : l[i]? = some x) : (l.take (i + 1)).map f = (l.take i).map f ++ [f x] := by
  rw [List.take_add_one, h, List.map_append]
  rfl
theorem rowsOk_all (k : Int) : ∀ (ds : List PyData) (n : Nat), rowsOk k n ds = (((List.range ds.length).map fun j => rowOk k ((n + j : Nat) : Int) (ds.getD j .none))).all id
  | [], _ => rfl
  | d :: ds, n => by
    have ih := rowsOk_all k ds (n + 1)
    show (rowOk k n d && rowsOk k (n + 1) ds) = _
    rw [ih, List.length_cons, List.range_succ_eq_map, List.map_cons, List.map_map, List.all_cons]
    have e : (List.range ds.length).map (fun j => rowOk k ((n + 1 + j : Nat) : Int) (ds.getD j .none)) = (List.range ds.length).map ((fun j => rowOk k ((n + j : Nat) : Int) ((d :: ds).getD j .none)) ∘ Nat.succ) := by
      refine List.map_congr_left fun j _ => ?_
      show rowOk k ((n + 1 + j : Nat) : Int) (ds.getD j .none) = rowOk k ((n + (j + 1) : Nat) : Int) (ds.getD j .none)
      rw [show n + 1 + j = n + (j + 1) by omega]
    rw [e]
    rfl
theorem all_range_more (f : Nat → Bool) (i : Nat) : (((List.range (i + 1)).map f).map V.bl) = ((List.range i).map f).map V.bl ++ [V.bl (f i)] := by
  rw [List.range_succ, List.map_append, List.map_append]
  rfl
def spCompOf (K : PySem.W.Frag) : Sp := fun vs H Q _ => ∃ x d k, vs = [.int k, x] ∧ Dt K H x d ∧ ∀ H', Same H H' → Q (.bl (compOk k d)) H'
/-- at c a list of the lists at rs, which hold the numbers kss -/
structure Tab (H : Hp) (c : Addr) (rs : List Addr) (kss : List (List Int)) : Prop where
  top : H c = some (.lst (rs.map V.ref))
  len : rs.length = kss.length
  row : ∀ (i : Nat) (r : Addr) (ks : List Int), rs[i]? = some r → kss[i]? = some ks → H r = some (.lst (ks.map V.int))
  nd : rs.Nodup
/-- the numbers of a company -/
def Fine (k : Int) (kss : List (List Int)) : Prop := ∀ (i : Nat) (ks : List Int), kss[i]? = some ks → ks.length = i ∧ ∀ z ∈ ks, 0 ≤ z ∧ z < k
theorem Tab.same {H H' : Hp} {c : Addr} {rs : List Addr} {kss : List (List Int)} (t : Tab H c rs kss) (s : Same H H') : Tab H' c rs kss := ⟨s _ _ t.top, t.len, fun i r ks a b => s _ _ (t.row i r ks a b), t.nd⟩
theorem Tab.at {H : Hp} {c : Addr} {rs : List Addr} {kss : List (List Int)} (t : Tab H c rs kss) {i : Nat} (hi : i < kss.length) : ∃ r ks, rs[i]? = some r ∧ kss[i]? = some ks ∧ H r = some (.lst (ks.map V.int)) := by
  have h2 : i < rs.length := by rw [t.len]; exact hi
  exact ⟨rs[i], kss[i], List.getElem?_eq_getElem h2, List.getElem?_eq_getElem hi, t.row i _ _ (List.getElem?_eq_getElem h2) (List.getElem?_eq_getElem hi)⟩
theorem cut_to {xs : List V} {i : Nat} (h : i ≤ xs.length) : cutV xs none (some (i : Int)) = xs.take i := by
  unfold cutV
  rw [HT.sIx_none, HT.sIx_nat, Nat.min_eq_left h]
  rfl
theorem Tab.push {H H4 : Hp} {c p : Addr} {rs : List Addr} {kss : List (List Int)} {ks : List Int} (t : Tab H c rs kss) (nc : c ∉ rs) (s : ∀ r ∈ rs, ∀ o, H r = some o → H4 r = some o) (hp : H p = none) (h4 : H4 p = some (.lst (ks.map V.int))) :
    Tab (upd H4 c (.lst (rs.map V.ref ++ [V.ref p]))) c (rs ++ [p]) (kss ++ [ks]) ∧ c ∉ rs ++ [p] := by
  have pc : c ≠ p := ne_of_none t.top hp
  have held : ∀ r ∈ rs, ∃ o, H r = some o := fun r hr => by
    obtain ⟨i, hi⟩ := List.getElem?_of_mem hr
    have h2 : i < kss.length := by rw [← t.len]; exact (List.getElem?_eq_some_iff.mp hi).1
    exact ⟨_, t.row i r _ hi (List.getElem?_eq_getElem h2)⟩
  have np : p ∉ rs := fun hr => by
    obtain ⟨o, e⟩ := held p hr
    rw [hp] at e
    cases e
  refine ⟨⟨?_, ?_, ?_, ?_⟩, ?_⟩
  · rw [upd_same, List.map_append]
    rfl
  · rw [List.length_append, List.length_append, t.len]
    rfl
  · intro i r ks' h1 h2
    by_cases hi : i < rs.length
    · rw [List.getElem?_append_left hi] at h1
      rw [List.getElem?_append_left (by rw [← t.len]; exact hi)] at h2
      have e := t.row i r ks' h1 h2
      have rc : r ≠ c := fun z => nc (by rw [← z]; exact List.mem_of_getElem? h1)
      rw [upd_ne rc]
      exact s r (List.mem_of_getElem? h1) _ e
    · rw [List.getElem?_append_right (by omega)] at h1
      rw [List.getElem?_append_right (by rw [← t.len]; omega)] at h2
      have i0 : i - rs.length = 0 := by
        have := (List.getElem?_eq_some_iff.mp h1).1
        simp at this
        omega
      rw [i0] at h1
      rw [← t.len, i0] at h2
      cases h1
      cases h2
      rw [upd_ne pc.symm]
      exact h4
  · rw [List.nodup_append]
    refine ⟨t.nd, by simp, fun a ha b hb => ?_⟩
    rw [List.mem_singleton] at hb
    subst hb
    exact fun z => np (by rw [← z]; exact ha)
  · rw [List.mem_append, List.mem_singleton]
    rintro (z | z)
    · exact nc z
    · exact pc z
theorem Fine.nil {k : Int} : Fine k [] := fun i ks h => by simp at h
theorem Fine.push {k : Int} {kss : List (List Int)} {ks : List Int} (f : Fine k kss) (l : ks.length = kss.length) (b : ∀ z ∈ ks, 0 ≤ z ∧ z < k) : Fine k (kss ++ [ks]) := by
  intro i ks' h
  by_cases hi : i < kss.length
  · rw [List.getElem?_append_left hi] at h
    exact f i ks' h
  · rw [List.getElem?_append_right (by omega)] at h
    have i0 : i - kss.length = 0 := by
      have := (List.getElem?_eq_some_iff.mp h).1
      simp at this
      omega
    rw [i0] at h
    cases h
    exact ⟨by omega, b⟩
theorem Tab.but {H H' : Hp} {c g : Addr} {rs : List Addr} {kss : List (List Int)} (t : Tab H c rs kss) (b : But g H H') (h1 : c ≠ g) (h2 : g ∉ rs) : Tab H' c rs kss :=
  ⟨b _ _ t.top h1, t.len, fun i r ks x y => b _ _ (t.row i r ks x y) fun z => h2 (by rw [← z]; exact List.mem_of_getElem? x), t.nd⟩
def natV (os : List Nat) : List V := os.map fun (j : Nat) => V.int (j : Int)
theorem seq_in {r : Int} {n : Nat} (h0 : 0 ≤ r) (h1 : r < n) : seqIndex? r n = some r.toNat := by
  unfold seqIndex?
  rw [if_neg (by omega : ¬ r < 0), if_pos (by simp [h0, h1])]
theorem rg_nat (n : Nat) : rgV 0 (n : Int) = natV (List.range n) := by
  unfold rgV natV
  rw [show ((n : Int) - 0).toNat = n by omega]
  exact List.map_congr_left fun j _ => by rw [Int.zero_add]
theorem erase_map : ∀ {os : List Nat} (k : Nat), (natV os).eraseIdx k = natV (os.eraseIdx k)
  | [], k => by cases k <;> rfl
  | a :: os, 0 => rfl
  | a :: os, k + 1 => congrArg (V.int (a : Int) :: ·) (erase_map (os := os) k)
theorem perm_erase : ∀ {l : List Nat} {k : Nat} {y : Nat}, l[k]? = some y → (y :: l.eraseIdx k).Perm l
  | [], k, y, h => by simp at h
  | a :: l, 0, y, h => by
    cases h
    exact .refl _
  | a :: l, k + 1, y, h => (List.Perm.swap a y (l.eraseIdx k)).trans (List.Perm.cons a (perm_erase (l := l) (k := k) h))
theorem notin_new {H : Hp} {g : Addr} {n : Nat} {rs : List Addr} (G : Gen H g n) (nR : ∀ r ∈ rs, H r = none) : g ∉ rs := fun z => by
  obtain ⟨a, b, c, h1, _⟩ := G
  have := nR g z
  rw [h1] at this
  cases this
theorem but_free {H H' : Hp} {g p : Addr} {n' : Nat} (b : But g H H') (G' : Gen H' g n') (hp : H' p = none) : H p = none := by
  have pg : p ≠ g := (G'.ne hp).symm
  cases q : H p with
  | none => rfl
  | some o =>
    rw [b p o q pg] at hp
    cases hp
theorem Gen.same {H H' : Hp} {g : Addr} {n : Nat} (h : Gen H g n) (s : Same H H') : Gen H' g n := by
  obtain ⟨a, b, c, h1, r⟩ := h
  exact ⟨a, b, c, s _ _ h1, r⟩
theorem gen (H : Hp) {p : Addr} (h : H p = none) (o : HO) : ∃ H', upd H p o = H' ∧ Same H H' ∧ H' p = some o := ⟨_, rfl, same_new h, upd_same⟩
theorem one_le : 1 ≤ sizeLine := by decide
/-- the tie of two people -/
def tieN (kss : List (List Int)) (i j : Nat) : Int := (kss.getD (max i j) []).getD (min i j) 0
theorem tieN_comm (kss : List (List Int)) (i j : Nat) : tieN kss i j = tieN kss j i := by
  unfold tieN
  rw [Nat.max_comm, Nat.min_comm]
theorem tieN_in {k : Int} {kss : List (List Int)} (f : Fine k kss) {i j : Nat} (hi : i < kss.length) (hj : j < kss.length) (ne : i ≠ j) : 0 ≤ tieN kss i j ∧ tieN kss i j < k := by
  have hm : max i j < kss.length := by omega
  have e : kss.getD (max i j) [] = kss[max i j] := by rw [List.getD_eq_getElem?_getD, List.getElem?_eq_getElem hm]; rfl
  obtain ⟨a, b⟩ := f _ _ (List.getElem?_eq_getElem hm)
  have hl : min i j < kss[max i j].length := by omega
  unfold tieN
  rw [e, List.getD_eq_getElem?_getD, List.getElem?_eq_getElem hl]
  exact b _ (List.getElem_mem hl)
theorem ixN_nat {n j : Nat} (h : j < n) : ixN n (j : Int) = some j := by
  unfold ixN
  rw [if_pos (by omega), if_pos (by omega), Int.toNat_natCast]
theorem dts_ints {K : PySem.W.Frag} {H : Hp} : ∀ ks : List Int, Dts K H (ks.map V.int) (ks.map PyData.int)
  | [] => .nil
  | k :: ks => .cons (.int k) (dts_ints ks)
theorem dts_rows {K : PySem.W.Frag} {H : Hp} : ∀ {rs : List Addr} {kss : List (List Int)}, rs.length = kss.length → (∀ (i : Nat) r ks, rs[i]? = some r → kss[i]? = some ks → H r = some (.lst (ks.map V.int))) → Dts K H (rs.map V.ref) (kss.map rowP)
  | [], [], _, _ => .nil
  | [], _ :: _, l, _ => by simp at l
  | _ :: _, [], l, _ => by simp at l
  | r :: rs, ks :: kss, l, h => .cons (.lst (h 0 r ks rfl rfl) (dts_ints ks)) (dts_rows (Nat.succ.inj l) fun i r' ks' a b => h (i + 1) r' ks' a b)
theorem Tab.dt {K : PySem.W.Frag} {H : Hp} {c : Addr} {rs : List Addr} {kss : List (List Int)} (t : Tab H c rs kss) : Dt K H (.ref c) (tabP kss) := .lst t.top (dts_rows t.len t.row)
theorem rows_get {k : Int} {ds : List PyData} (n : Nat) : rowsOk k n ds = true ↔ ∀ (j : Nat) (d : PyData), ds[j]? = some d → rowOk k ((n + j : Nat) : Int) d = true := by
  induction ds generalizing n with
  | nil => exact ⟨fun _ j d h => by simp at h, fun _ => rfl⟩
  | cons a ds ih =>
    show (rowOk k n a && rowsOk k (n + 1) ds) = true ↔ _
    rw [Bool.and_eq_true, ih]
    constructor
    · rintro ⟨h1, h2⟩ j d h
      cases j with
      | zero =>
        cases h
        exact h1
      | succ j =>
        have := h2 j d h
        rwa [show n + 1 + j = n + (j + 1) by omega] at this
    · intro h
      refine ⟨h 0 a rfl, fun j d hd => ?_⟩
      have := h (j + 1) d hd
      rwa [show n + (j + 1) = n + 1 + j by omega] at this
theorem Fine.comp {k : Int} {kss : List (List Int)} (f : Fine k kss) (h1 : 1 ≤ kss.length) (h2 : kss.length ≤ 40) : compOk k (tabP kss) = true := by
  unfold tabP
  show ((decide (1 ≤ (kss.map rowP).length) && decide ((kss.map rowP).length ≤ 40)) && rowsOk k 0 (kss.map rowP)) = true
  rw [List.length_map, decide_eq_true h1, decide_eq_true h2, (rows_get 0).mpr]
  · rfl
  · intro j d hd
    rw [List.getElem?_map] at hd
    cases e : kss[j]? with
    | none =>
      rw [e] at hd
      cases hd
    | some ks =>
      rw [e] at hd
      cases hd
      obtain ⟨a, b⟩ := f j ks e
      show (decide (((ks.map PyData.int).length : Int) = ((0 + j : Nat) : Int)) && (ks.map PyData.int).all (below k)) = true
      rw [List.length_map, decide_eq_true (by omega), List.all_map]
      refine List.all_eq_true.mpr fun z hz => ?_
      obtain ⟨z0, z1⟩ := b z hz
      show (decide (0 ≤ z) && decide (z < k)) = true
      rw [decide_eq_true z0, decide_eq_true z1]
      rfl
def nums (l : List Nat) : List Int := l.map fun (j : Nat) => (j : Int)
theorem natV_nums (l : List Nat) : natV l = (nums l).map V.int := by
  unfold natV nums
  rw [List.map_map]
  rfl
def rLstL (K : PySem.W.Frag) : List V → Hp → VK → Prop := fun xs H Q => ∃ p ys, xs = [.ref p] ∧ SqL K H p ys ∧ ∀ l, H l = none → Q (.ref l) (upd H l (.lst ys))
theorem call_lstL {X : Cx} : CallR X (.type "list") (rLstL X.K) := fun pins s σ H xs us Q I r ⟨p, ys, e, a, b⟩ => call_list_of pins s σ H xs us Q I r ⟨p, ys, e, .inl a, b⟩
def cplTo (n : Nat) : Nat → List (Nat × Nat)
  | 0 => []
  | m + 1 => cplTo n m ++ (List.range (n - (m + 1))).map fun j => (m, m + 1 + j)
theorem cpl_mem (n : Nat) : ∀ (m : Nat) (a b : Nat), (a, b) ∈ cplTo n m ↔ a < m ∧ a < b ∧ b < n
  | 0, a, b => by
    show (a, b) ∈ [] ↔ _
    simp
  | m + 1, a, b => by
    show (a, b) ∈ cplTo n m ++ (List.range (n - (m + 1))).map (fun j => (m, m + 1 + j)) ↔ _
    rw [List.mem_append, cpl_mem n m, List.mem_map]
    constructor
    · rintro (h | ⟨j, hj, e⟩)
      · omega
      · cases e
        have := List.mem_range.mp hj
        omega
    · intro h
      by_cases c : a < m
      · exact .inl (by omega)
      · refine .inr ⟨b - (m + 1), List.mem_range.mpr (by omega), ?_⟩
        have h1 : m = a := by omega
        have h2 : m + 1 + (b - (m + 1)) = b := by omega
        rw [h2, h1]
theorem cpl_len (n : Nat) : ∀ m, (cplTo n m).length ≤ m * n
  | 0 => Nat.zero_le _
  | m + 1 => by
    show (cplTo n m ++ (List.range (n - (m + 1))).map fun j => (m, m + 1 + j)).length ≤ _
    rw [List.length_append, List.length_map, List.length_range, Nat.succ_mul]
    have := cpl_len n m
    omega
structure Cpls (H0 H : Hp) (a : Addr) (ts : List (Addr × Nat × Nat)) : Prop where
  top : H a = some (.lst (ts.map fun t => V.ref t.1))
  row : ∀ t ∈ ts, H t.1 = some (.tup [.int (t.2.1 : Nat), .int (t.2.2 : Nat)])
  new : ∀ t ∈ ts, H0 t.1 = none
theorem rows_nodup {H : Hp} {rs : List Addr} {kss : List (List Int)} {k : Int} (f : Fine k kss) (l : rs.length = kss.length) (row : ∀ (i : Nat) (r : Addr) (ks : List Int), rs[i]? = some r → kss[i]? = some ks → H r = some (.lst (ks.map V.int))) : rs.Nodup := by
  refine List.pairwise_iff_getElem.mpr fun i j hi hj lt e => ?_
  have h1 := row i _ _ (List.getElem?_eq_getElem hi) (List.getElem?_eq_getElem (by omega : i < kss.length))
  have h2 := row j _ _ (List.getElem?_eq_getElem hj) (List.getElem?_eq_getElem (by omega : j < kss.length))
  rw [e, h2] at h1
  have h3 := congrArg List.length (HO.lst.inj (Option.some.inj h1))
  rw [List.length_map, List.length_map] at h3
  have a := (f i _ (List.getElem?_eq_getElem (by omega : i < kss.length))).1
  have b := (f j _ (List.getElem?_eq_getElem (by omega : j < kss.length))).1
  omega
theorem Tab.made {H : Hp} {c : Addr} {rs : List Addr} {kss : List (List Int)} {k : Int} (f : Fine k kss) (l : rs.length = kss.length) (top : H c = some (.lst (rs.map V.ref))) (row : ∀ (i : Nat) (r : Addr) (ks : List Int), rs[i]? = some r → kss[i]? = some ks → H r = some (.lst (ks.map V.int))) : Tab H c rs kss :=
  ⟨top, l, row, rows_nodup f l row⟩
def fineB (k : Int) (kss : List (List Int)) : Bool := (List.range kss.length).all fun i => decide ((kss.getD i []).length = i) && (kss.getD i []).all fun z => decide (0 ≤ z) && decide (z < k)
theorem fine_of {k : Int} {kss : List (List Int)} (h : fineB k kss = true) : Fine k kss := fun i ks e => by
  have il := (List.getElem?_eq_some_iff.mp e).1
  have := List.all_eq_true.mp h i (List.mem_range.mpr il)
  rw [List.getD_eq_getElem?_getD, e] at this
  show ks.length = i ∧ _
  have t2 : (decide (ks.length = i) && ks.all fun z => decide (0 ≤ z) && decide (z < k)) = true := this
  rw [Bool.and_eq_true] at t2
  refine ⟨of_decide_eq_true t2.1, fun z hz => ?_⟩
  have := List.all_eq_true.mp t2.2 z hz
  rw [Bool.and_eq_true] at this
  exact ⟨of_decide_eq_true this.1, of_decide_eq_true this.2⟩
theorem inV_nat (l : List Nat) (p : Nat) : inV (.int (p : Nat)) (natV l) = decide (p ∈ l) := by
  unfold inV natV
  induction l with
  | nil => rfl
  | cons a l ih =>
    rw [List.map_cons, List.any_cons, ih]
    show (((a : Nat) : Int) == (p : Int) || decide (p ∈ l)) = decide (p ∈ a :: l)
    by_cases h : a = p
    · subst h
      simp
    · have h' : ¬ p = a := fun z => h z.symm
      have h2 : ¬ (a : Int) = (p : Int) := by omega
      simp [h', h2]
theorem flat_nat (l : List Nat) : (natV l).all flatV = true := by
  unfold natV
  rw [List.all_map]
  exact List.all_eq_true.mpr fun _ _ => rfl
def pairT (c : Nat × Nat) : List V := [.int (c.1 : Nat), .int (c.2 : Nat)]
theorem choices_two (n : Nat) : ∀ d m, m + d = n → (cplTo n n).map (fun c => [c.1, c.2]) = (cplTo n m).map (fun c => [c.1, c.2]) ++ Cmb.combs n 2 d m
  | 0, m, h => by
    have : m = n := by omega
    subst this
    rw [Cmb.combs, List.append_nil]
  | d + 1, m, h => by
    rw [choices_two n d (m + 1) (by omega), Cmb.combs]
    have e1 : ∀ d lo, Cmb.combs n 1 d lo = (List.range d).map fun j => [lo + j] := fun d => by
      induction d with
      | zero => intro lo; rw [Cmb.combs]; rfl
      | succ d ih =>
        intro lo
        rw [Cmb.combs, ih (lo + 1), List.range_succ_eq_map, List.map_cons, List.map_map]
        have e0 : Cmb.combs n 0 d (lo + 1) = [[]] := by cases d <;> (rw [Cmb.combs])
        rw [e0]
        show [lo] :: _ = [lo + 0] :: _
        rw [Nat.add_zero]
        congr 1
        exact List.map_congr_left fun j _ => by show [lo + 1 + j] = [lo + (j + 1)]; rw [show lo + 1 + j = lo + (j + 1) by omega]
    show (cplTo n m ++ (List.range (n - (m + 1))).map fun j => (m, m + 1 + j)).map _ ++ _ = _
    rw [List.map_append, List.append_assoc, e1, List.map_map, List.map_map, show n - (m + 1) = d by omega]
    rfl
theorem Cpls.same {H0 H H' : Hp} {a : Addr} {ts : List (Addr × Nat × Nat)} (r : Cpls H0 H a ts) (s : Same H H') : Cpls H0 H' a ts := ⟨s _ _ r.top, fun t ht => s _ _ (r.row t ht), r.new⟩
theorem Cpls.push {H0 H H' : Hp} {D p : Addr} {ts : List (Addr × Nat × Nat)} {c : Nat × Nat} (R : Cpls H0 H D ts) (s : Same H H') (hp : H p = none) (h0 : H0 p = none) (f : H' p = some (.tup (pairT c))) : Cpls H0 (upd H' D (.lst ((ts.map fun t => V.ref t.1) ++ [V.ref p]))) D (ts ++ [(p, c)]) := by
  have Dp : D ≠ p := ne_of_none R.top hp
  refine ⟨?_, ?_, ?_⟩
  · rw [upd_same, List.map_append]
    rfl
  · intro u hu
    rcases List.mem_append.mp hu with hu | hu
    · have h0 := R.row u hu
      have uD : u.1 ≠ D := ne_of h0 R.top (by intro z; cases z)
      rw [upd_ne uD]
      exact s _ _ h0
    · rw [List.mem_singleton] at hu
      subst hu
      show upd H' D _ p = _
      rw [upd_ne Dp.symm]
      exact f
  · intro u hu
    rcases List.mem_append.mp hu with hu | hu
    · exact R.new u hu
    · rw [List.mem_singleton] at hu
      subst hu
      exact h0
theorem Cpls.back {H0 H1 H : Hp} {a : Addr} {ts : List (Addr × Nat × Nat)} (r : Cpls H1 H a ts) (s : Same H0 H1) : Cpls H0 H a ts := ⟨r.top, r.row, fun t ht => s.free (r.new t ht)⟩
theorem Tab.entry {H : Hp} {c : Addr} {rs : List Addr} {kss : List (List Int)} {k : Int} (t : Tab H c rs kss) (fine : Fine k kss) {i j : Nat} (hi : i < j) (hj : j < kss.length) :
    ∃ (r : Addr) (ks : List Int), atI (rs.map V.ref) ((j : Nat) : Int) = some (.ref r) ∧ H r = some (.lst (ks.map V.int)) ∧ atI (ks.map V.int) ((i : Nat) : Int) = some (.int (tieN kss j i)) := by
  obtain ⟨r, ks, a1, a2, a3⟩ := t.at hj
  obtain ⟨lk, _⟩ := fine _ _ a2
  have il : i < ks.length := by omega
  refine ⟨r, ks, atI_nat (by rw [List.getElem?_map, a1]; rfl), a3, atI_nat ?_⟩
  have ez : tieN kss j i = ks[i] := by
    have eA : kss.getD (max j i) [] = ks := by rw [List.getD_eq_getElem?_getD, Nat.max_eq_left (by omega), a2]; rfl
    unfold tieN
    rw [eA, Nat.min_eq_right (by omega), List.getD_eq_getElem?_getD, List.getElem?_eq_getElem il]
    rfl
  rw [List.getElem?_map, List.getElem?_eq_getElem il, ez]
  rfl
def Im (mg : Str → Option Value) : Prop := mg "combinations" = some (.type "itertools.combinations")
theorem seq_by {a b : TS} {D : Ends} {σ : L2.St} {H : Hp} (R : L2.St → Hp → Prop) (h1 : ∀ nx : L2.St → Hp → Prop, (∀ σ' H', R σ' H' → nx σ' H') → a { D with nx := nx } σ H) (h2 : ∀ σ' H', R σ' H' → b D σ' H') : tSeq a b D σ H := h1 _ h2
theorem nice_tab {k : Int} {kss : List (List Int)} (f : Fine k kss) (hk : k ≤ 9) (l : kss.length ≤ 40) : Nice 3 (tabP kss) := (Nice.list (n := 1) (by rw [List.length_map]; omega) fun e he => by
  obtain ⟨ks, hks, rfl⟩ := List.mem_map.mp he
  obtain ⟨i, hi, e⟩ := List.getElem_of_mem hks
  obtain ⟨a, b⟩ := f i ks (by rw [List.getElem?_eq_getElem hi, e])
  exact Nice.list (by rw [List.length_map]; omega) fun z hz => by
    obtain ⟨x, hx, rfl⟩ := List.mem_map.mp hz
    obtain ⟨x0, x1⟩ := b x hx
    exact Nice.leaf (by show x.natAbs < 2 ^ 100; omega)).up
theorem combs_up (n : Nat) : ∀ r d lo, lo + d = n → ∀ l ∈ Cmb.combs n r d lo, l.Pairwise (· < ·)
  | 0, d, lo, _, l, h => by
    cases d <;> (rw [Cmb.combs] at h; rw [List.mem_singleton] at h; rw [h]; exact List.Pairwise.nil)
  | r + 1, 0, lo, _, l, h => by
    rw [Cmb.combs] at h
    cases h
  | r + 1, d + 1, lo, e, l, h => by
    rw [Cmb.combs, List.mem_append, List.mem_map] at h
    rcases h with ⟨t, ht, rfl⟩ | h
    · exact List.pairwise_cons.mpr ⟨fun j hj => by
        have := Cmb.combs_low n r d (lo + 1) (by omega) t ht j hj
        omega, combs_up n r d (lo + 1) (by omega) t ht⟩
    · exact combs_up n (r + 1) d (lo + 1) (by omega) l h
def rLstT (K : PySem.W.Frag) : List V → Hp → VK → Prop := fun xs H Q => ∃ p ys, xs = [.ref p] ∧ SqT K H p ys ∧ ∀ l, H l = none → Q (.ref l) (upd H l (.lst ys))
theorem call_lstT {X : Cx} : CallR X (.type "list") (rLstT X.K) := fun pins s σ H xs us Q I r ⟨p, ys, e, a, b⟩ => call_list_of pins s σ H xs us Q I r ⟨p, ys, e, .inr a, b⟩
end
end GL

namespace GL
open PySem PySem.Spec PyProof.Rows L2
theorem hid_upd {H : Hp} {f : Addr} {o : HO} : hid (upd H f o) f = hid H f := by
  funext b
  unfold hid
  by_cases h : b = f
  · rw [if_pos h, if_pos h]
  · rw [if_neg h, if_neg h, upd_ne h]
theorem hid_mono {H H' : Hp} {f : Addr} (s : Same H H') : Same (hid H f) (hid H' f) := fun b o e => by
  have n := hid_none e
  rw [hid_ne n] at e ⊢
  exact s b o e
theorem hid_in {H : Hp} {f b : Addr} {o : HO} (e : H b = some o) (n : b ≠ f) : hid H f b = some o := by rw [hid_ne n]; exact e
section
variable {J : It} {n : Nat} {G : Hp → Prop} {Y : Nat → Hp → V → Hp → Prop}
theorem filt_more (p : Nat → Bool) (f : Nat → V) (n : Nat) : ((List.range (n + 1)).filter p).map f = ((List.range n).filter p).map f ++ (if p n then [f n] else []) := by
  rw [List.range_succ, List.filter_append, List.map_append]
  congr 1
  cases h : p n <;> simp [h]
/-- a comprehension of plain values, some kept -/
theorem lc_keep (w : Walk J n G Y) {g : TG} {tt : TT} {te : TE} {vs : List Nat} {σ : L2.St} {H1 : Hp} {D : Addr} {Qd : Hp → Prop} (p : Nat → Bool) (f : Nat → V) (hD : H1 D = none) (hn : n ≤ sizeLine)
    (hG : ∀ H', Same H1 H' → G H')
    (hs : ∀ (i : Nat) (x : V) (H2 H3 : Hp) (N : V → Hp → Prop) (M : Hp → Prop), i < n → Same H1 H2 → Y i H2 x H3 → (∀ H4, p i = true → Same H2 H4 → N (f i) H4) → (∀ H4, p i = false → Same H2 H4 → M H4) →
      g x (wipe σ vs) H3 fun σ2 H4 => wipe σ2 vs = wipe σ vs ∧ tt σ2 H4 fun b H5 => if b = true then te σ2 H5 N else M H5)
    (hd : ∀ H', Same H1 H' → H' D = some (.lst (((List.range n).filter p).map f)) → Qd H') :
    ∃ W : Nat → Nat → Hp → Prop, (∃ m, W 0 m (upd H1 D (.lst []))) ∧ ∀ i m H, W i m H →
      (J.stop i H ∧ Qd H) ∨ (J.go i H ∧ ∃ Nx : Hp → Prop, (∀ H', Nx H' → ∃ m', m' < m ∧ W (i + 1) m' H') ∧ ∀ x H', J.yld i H x H' → g x (wipe σ vs) H' fun σ2 H2 => wipe σ2 vs = wipe σ vs ∧ tt σ2 H2 fun b H3 =>
        if b = true then te σ2 H3 fun y H4 => ∃ acc, H4 D = some (.lst acc) ∧ acc.length < sizeLine ∧ Nx (upd H4 D (.lst (acc ++ [y]))) else Nx H3) := by
  refine lc_it w (fun i H' => Same H1 H' ∧ H' D = some (.lst (((List.range i).filter p).map f))) ⟨same_new hD, upd_same⟩ (fun i H' _ z => hG H' z.1) ?_ fun H' z => hd H' z.1 z.2
  rintro i x H2 H3 hi ⟨s, e⟩ y
  refine hs i x H2 H3 _ _ hi s y (fun H4 k s4 => ?_) (fun H4 k s4 => ?_)
  · refine ⟨_, s4 _ _ e, ?_, fun b o e' => ?_, ?_⟩
    · rw [List.length_map]
      have := List.length_filter_le p (List.range i)
      rw [List.length_range] at this
      omega
    · rw [upd_ne (ne_of_none e' hD)]
      exact s4 _ _ (s _ _ e')
    · rw [upd_same, filt_more, k, if_pos rfl]
  · refine ⟨s.trans s4, ?_⟩
    rw [filt_more, k, if_neg (by decide), List.append_nil]
    exact s4 _ _ e
/-- a comprehension of plain values -/
theorem lc_vals (w : Walk J n G Y) {g : TG} {te : TE} {vs : List Nat} {σ : L2.St} {H1 : Hp} {D : Addr} {Qd : Hp → Prop} (f : Nat → V) (hD : H1 D = none) (hn : n ≤ sizeLine)
    (hG : ∀ H', Same H1 H' → G H')
    (hs : ∀ (i : Nat) (x : V) (H2 H3 : Hp) (N : V → Hp → Prop), i < n → Same H1 H2 → Y i H2 x H3 → (∀ H4, Same H2 H4 → N (f i) H4) →
      g x (wipe σ vs) H3 fun σ2 H4 => wipe σ2 vs = wipe σ vs ∧ te σ2 H4 N)
    (hd : ∀ H', Same H1 H' → H' D = some (.lst ((List.range n).map f)) → Qd H') :
    ∃ W : Nat → Nat → Hp → Prop, (∃ m, W 0 m (upd H1 D (.lst []))) ∧ ∀ i m H, W i m H →
      (J.stop i H ∧ Qd H) ∨ (J.go i H ∧ ∃ Nx : Hp → Prop, (∀ H', Nx H' → ∃ m', m' < m ∧ W (i + 1) m' H') ∧ ∀ x H', J.yld i H x H' → g x (wipe σ vs) H' fun σ2 H2 => wipe σ2 vs = wipe σ vs ∧ tYes σ2 H2 fun b H3 =>
        if b = true then te σ2 H3 fun y H4 => ∃ acc, H4 D = some (.lst acc) ∧ acc.length < sizeLine ∧ Nx (upd H4 D (.lst (acc ++ [y]))) else Nx H3) := by
  refine lc_it w (fun i H' => Same H1 H' ∧ H' D = some (.lst ((List.range i).map f))) ⟨same_new hD, upd_same⟩ (fun i H' _ z => hG H' z.1) ?_ fun H' z => hd H' z.1 z.2
  rintro i x H2 H3 hi ⟨s, e⟩ y
  refine hs i x H2 H3 _ hi s y (fun H4 s4 => ?_)
  refine ⟨_, s4 _ _ e, ?_, fun b o e' => ?_, ?_⟩
  · rw [List.length_map, List.length_range]
    omega
  · rw [upd_ne (ne_of_none e' hD)]
    exact s4 _ _ (s _ _ e')
  · rw [upd_same, List.range_succ, List.map_append]
    rfl
end
end GL

namespace GL
open PySem PySem.Spec PyProof.Rows L2
section
variable {J : It} {n : Nat} {G : Hp → Prop} {Y : Nat → Hp → V → Hp → Prop}
/-- lists at rs, in a list at D, all new -/
structure Objs (H0 H : Hp) (D : Addr) (rs : List Addr) (n : Nat) (o : Nat → HO) : Prop where
  top : H D = some (.lst (rs.map V.ref))
  len : rs.length = n
  row : ∀ (i : Nat) (r : Addr), rs[i]? = some r → H r = some (o i)
  nd : rs.Nodup
  out : D ∉ rs
  new : ∀ r ∈ rs, H0 r = none
theorem Objs.same {H0 H H' : Hp} {D : Addr} {rs : List Addr} {n : Nat} {o : Nat → HO} (r : Objs H0 H D rs n o) (s : Same H H') : Objs H0 H' D rs n o := ⟨s _ _ r.top, r.len, fun i a h => s _ _ (r.row i a h), r.nd, r.out, r.new⟩
/-- a comprehension of new objects -/
theorem lc_objs (w : Walk J n G Y) {g : TG} {te : TE} {vs : List Nat} {σ : L2.St} {H1 : Hp} {D : Addr} {Qd : Hp → Prop} (o : Nat → HO) (hD : H1 D = none) (hn : n ≤ sizeLine)
    (hG : ∀ H', Same H1 H' → G H')
    (hs : ∀ (i : Nat) (x : V) (H2 H3 : Hp) (N : V → Hp → Prop), i < n → Same H1 H2 → Y i H2 x H3 → (∀ H4 r, Same H2 H4 → H2 r = none → H4 r = some (o i) → N (.ref r) H4) →
      g x (wipe σ vs) H3 fun σ2 H4 => wipe σ2 vs = wipe σ vs ∧ te σ2 H4 N)
    (hd : ∀ H' rs, Same H1 H' → Objs H1 H' D rs n o → Qd H') :
    ∃ W : Nat → Nat → Hp → Prop, (∃ m, W 0 m (upd H1 D (.lst []))) ∧ ∀ i m H, W i m H →
      (J.stop i H ∧ Qd H) ∨ (J.go i H ∧ ∃ Nx : Hp → Prop, (∀ H', Nx H' → ∃ m', m' < m ∧ W (i + 1) m' H') ∧ ∀ x H', J.yld i H x H' → g x (wipe σ vs) H' fun σ2 H2 => wipe σ2 vs = wipe σ vs ∧ tYes σ2 H2 fun b H3 =>
        if b = true then te σ2 H3 fun y H4 => ∃ acc, H4 D = some (.lst acc) ∧ acc.length < sizeLine ∧ Nx (upd H4 D (.lst (acc ++ [y]))) else Nx H3) := by
  refine lc_it w (fun i H' => Same H1 H' ∧ ∃ rs, Objs H1 H' D rs i o) ⟨same_new hD, [], upd_same, rfl, fun i r h => by simp at h, List.nodup_nil, by simp, by simp⟩ (fun i H' _ z => hG H' z.1) ?_ fun H' ⟨a, rs, b⟩ => hd H' rs a b
  rintro i x H2 H3 hi ⟨s, rs, e⟩ y
  refine hs i x H2 H3 _ hi s y (fun H4 r s4 nr hr => ?_)
  have rD : D ≠ r := ne_of_none e.top nr
  have nin : r ∉ rs := fun z => by
    obtain ⟨j, hj⟩ := List.getElem?_of_mem z
    have := e.row j r hj
    rw [nr] at this
    cases this
  refine ⟨_, s4 _ _ e.top, ?_, fun b o' e' => ?_, rs ++ [r], ?_, ?_, ?_, ?_, ?_, ?_⟩
  · rw [List.length_map, e.len]
    omega
  · rw [upd_ne (ne_of_none e' hD)]
    exact s4 _ _ (s _ _ e')
  · rw [upd_same, List.map_append]
    rfl
  · rw [List.length_append, e.len]
    rfl
  · intro j a hj
    by_cases c : j < rs.length
    · rw [List.getElem?_append_left c] at hj
      have ne : a ≠ D := fun z => e.out (by rw [← z]; exact List.mem_of_getElem? hj)
      rw [upd_ne ne]
      exact s4 _ _ (e.row j a hj)
    · rw [List.getElem?_append_right (by omega)] at hj
      have j0 : j - rs.length = 0 := by
        have := (List.getElem?_eq_some_iff.mp hj).1
        simp at this
        omega
      rw [j0] at hj
      cases hj
      have ji : j = i := by
        have := e.len
        omega
      subst ji
      rw [upd_ne rD.symm]
      exact hr
  · rw [List.nodup_append]
    refine ⟨e.nd, by simp, fun a ha b hb => ?_⟩
    rw [List.mem_singleton] at hb
    subst hb
    exact fun z => nin (by rw [← z]; exact ha)
  · rw [List.mem_append, List.mem_singleton]
    rintro (z | z)
    · exact e.out z
    · exact rD z
  · intro a ha
    rcases List.mem_append.mp ha with ha | ha
    · exact e.new a ha
    · rw [List.mem_singleton] at ha
      subst ha
      exact s.free nr
theorem Objs.tab {H0 H : Hp} {D : Addr} {rs : List Addr} {n : Nat} {kss : List (List Int)} (r : Objs H0 H D rs n fun i => .lst ((kss.getD i []).map V.int)) (hn : kss.length = n) : Tab H D rs kss :=
  ⟨r.top, r.len.trans hn.symm, fun i a ks h1 h2 => by
    have := r.row i a h1
    rw [List.getD_eq_getElem?_getD, h2] at this
    exact this, r.nd⟩
end
section
variable {X : Cx}
/-- xs == [] -/
def rEqNil (K : PySem.W.Frag) : R2 := fun x y H Q => ∃ a b xs, x = .ref a ∧ y = .ref b ∧ SqL K H a xs ∧ SqL K H b [] ∧ Q (.bl xs.isEmpty) H
theorem op_eqNil (hu : X.A.units + 64 < cLine) : OpR X (compareOp .Eq) (rEqNil X.K) := by
  intro pins s σ H x y v u Q I rx ry h
  obtain ⟨a, b, xs, rfl, rfl, ha, hb, q⟩ := h
  cases rx
  cases ry
  obtain ⟨is, ra, pa, _⟩ := I.list ha
  obtain ⟨js, rb, pb, _⟩ := I.list hb
  cases rb
  cases xs with
  | nil =>
    cases ra
    exact (SeqAt.RcAt.lists (e := fun _ => true) pa.isList pb.isList rfl (by omega) (fun j h1 => absurd h1 (by simp))) _ _ _ _ ⟨.bl _, H, I, rfl, q⟩
  | cons z zs =>
    cases ra with
    | cons r1 r2 => exact (SeqAt.RcAt.lists_lengths pa.isList pb.isList (by simp) (by omega)) _ _ _ _ ⟨.bl _, H, I, rfl, q⟩
end
end GL

namespace GL
open PySem PySem.Spec PyProof.Rows L2
section
variable {P : Program} {w : World} {K : PySem.W.Frag} {mg : Str → Option Value} {base : Heap}
structure CoN (H0 H : Hp) (k : Int) (c : Addr) (n : Nat) : Prop where
  ex : ∃ rs kss, Tab H c rs kss ∧ kss.length = n ∧ Fine k kss ∧ c ∉ rs ∧ H0 c = none ∧ ∀ r ∈ rs, H0 r = none
theorem nums_inj {l m : List Nat} (h : nums l = nums m) : l = m := by
  induction l generalizing m with
  | nil =>
    cases m with
    | nil => rfl
    | cons b m => cases h
  | cons a l ih =>
    cases m with
    | nil => cases h
    | cons b m =>
      obtain ⟨h1, h2⟩ := List.cons.inj h
      rw [ih h2, Int.ofNat.inj h1]
theorem Tab.dp {K : PySem.W.Frag} {H : Hp} {c : Addr} {rs : List Addr} {kss : List (List Int)} (t : Tab H c rs kss) : Dp K H (.ref c) (tabP kss) := .lst (SqL.of t.top) (dpAll_rows t.len fun i r ks a b => SqL.of (t.row i r ks a b))
theorem nat_dp {K : PySem.W.Frag} {H : Hp} {o : Addr} {l : List Nat} (h : H o = some (.lst (natV l))) : Dp K H (.ref o) (rowP (nums l)) := dp_row (SqL.of (by rw [← natV_nums]; exact h))
theorem find_none {n : Nat} {f : Nat → Bool} (h : ∀ p, p < n → f p = false) : (List.range n).find? f = none := List.find?_eq_none.mpr fun p hp => by
  rw [h p (List.mem_range.mp hp)]
  decide
/-- the company of the people at os -/
def rowN (kss : List (List Int)) (os : List Nat) (i : Nat) : List Int := (List.range i).map fun j => tieN kss (os.getD i 0) (os.getD j 0)
def namedK (kss : List (List Int)) (os : List Nat) : List (List Int) := (List.range os.length).map (rowN kss os)
theorem named_fine {k : Int} {kss : List (List Int)} {os : List Nat} (f : Fine k kss) (nd : os.Nodup) (bd : ∀ j ∈ os, j < kss.length) : Fine k (namedK kss os) := fun i ks e => by
  unfold namedK at e
  rw [List.getElem?_map] at e
  cases h : (List.range os.length)[i]? with
  | none =>
    rw [h] at e
    cases e
  | some x =>
    obtain ⟨hi, hx⟩ := List.getElem?_eq_some_iff.mp h
    rw [List.getElem_range] at hx
    subst hx
    rw [List.length_range] at hi
    rw [h] at e
    cases e
    unfold rowN
    refine ⟨by rw [List.length_map, List.length_range], fun z hz => ?_⟩
    obtain ⟨j, hj, rfl⟩ := List.mem_map.mp hz
    have hji := List.mem_range.mp hj
    have hjl : j < os.length := by omega
    have gi : os.getD i 0 = os[i] := by rw [List.getD_eq_getElem?_getD, List.getElem?_eq_getElem hi]; rfl
    have gj : os.getD j 0 = os[j] := by rw [List.getD_eq_getElem?_getD, List.getElem?_eq_getElem hjl]; rfl
    rw [gi, gj]
    refine tieN_in f (bd _ (List.getElem_mem _)) (bd _ (List.getElem_mem _)) fun z => ?_
    have := (List.getElem_inj nd).mp z
    omega
def cT (c : Nat × Nat) : PyData := .tuple [.int (c.1 : Nat), .int (c.2 : Nat)]
def cplP (cs : List (Nat × Nat)) : PyData := .list (cs.map cT)
theorem eqv_cT (c d : Nat × Nat) : PyData.eqv (cT c) (cT d) = decide (c = d) := by
  obtain ⟨a, b⟩ := c
  obtain ⟨x, y⟩ := d
  unfold cT
  simp only [PyData.eqv, PyData.eqvAll]
  by_cases h1 : a = x
  · subst h1
    by_cases h2 : b = y
    · subst h2
      simp
    · simp [h2]
      omega
  · simp [h1]
    omega
theorem eqv_cs : ∀ xs ys : List (Nat × Nat), PyData.eqvAll (xs.map cT) (ys.map cT) = decide (xs = ys)
  | [], [] => by simp [PyData.eqvAll]
  | [], y :: ys => by simp [PyData.eqvAll]
  | x :: xs, [] => by simp [PyData.eqvAll]
  | x :: xs, y :: ys => by
    simp only [List.map_cons, PyData.eqvAll]
    rw [eqv_cs xs ys, eqv_cT]
    by_cases h1 : x = y
    · subst h1
      simp
    · simp [h1]
theorem eqv_cpl (xs ys : List (Nat × Nat)) : PyData.eqv (cplP xs) (cplP ys) = decide (xs = ys) := by
  unfold cplP
  simp only [PyData.eqv]
  exact eqv_cs xs ys
theorem lay_cT (c : Nat × Nat) : PyData.canLay0 (cT c) = true := by
  unfold cT
  simp only [PyData.canLay0, PyData.canLayAll0]
  rfl
theorem lay_cs : ∀ xs : List (Nat × Nat), PyData.canLayAll0 (xs.map cT) = true
  | [] => by simp [PyData.canLayAll0]
  | x :: xs => by
    simp only [List.map_cons, PyData.canLayAll0]
    rw [lay_cs xs, lay_cT]
    rfl
theorem depth_cT (c : Nat × Nat) : (cT c).depth ≤ 1 := by
  unfold cT
  simp only [PyData.depth, PyData.depthAll]
  omega
theorem shaped_cT (c : Nat × Nat) : SeqAt.shaped (cT c) = true := by
  unfold SeqAt.shaped
  rw [lay_cT, decide_eq_true (Nat.le_trans (depth_cT c) (by decide))]
  rfl
theorem shaped_cpl (xs : List (Nat × Nat)) : SeqAt.shaped (cplP xs) = true := by
  have d : (cplP xs).depth ≤ 2 := by
    unfold cplP
    simp only [PyData.depth]
    have := depthAll_of (n := 1) (ds := xs.map cT) fun e he => by
      obtain ⟨x, _, rfl⟩ := List.mem_map.mp he
      exact depth_cT x
    omega
  unfold SeqAt.shaped
  rw [decide_eq_true (Nat.le_trans d (by decide))]
  unfold cplP
  simp only [PyData.canLay0]
  rw [lay_cs]
  rfl
theorem any_cpl (xs : List (Nat × Nat)) (y : Nat × Nat) : ((xs.map cT).any fun z => PyData.eqv z (cT y)) = decide (y ∈ xs) := by
  induction xs with
  | nil => simp
  | cons x xs ih =>
    rw [List.map_cons, List.any_cons, ih, eqv_cT]
    by_cases h : x = y
    · subst h
      simp
    · have h' : y ≠ x := fun z => h z.symm
      simp [h, h']
theorem dp_pair {K : PySem.W.Frag} {H : Hp} {t : Addr} {c : Nat × Nat} (h : H t = some (.tup (pairT c))) : Dp K H (.ref t) (cT c) := .tup (SqT.of h) (.cons (.int _) (.cons (.int _) .nil))
theorem dp_cpl {K : PySem.W.Frag} {H : Hp} {a : Addr} {ts : List (Addr × Nat × Nat)} (h : H a = some (.lst (ts.map fun t => V.ref t.1))) (r : ∀ t ∈ ts, H t.1 = some (.tup (pairT t.2))) : Dp K H (.ref a) (cplP (ts.map (·.2))) := by
  have : cplP (ts.map (·.2)) = .list ((ts.map (·.2)).map cT) := rfl
  rw [this]
  refine .lst (SqL.of h) ?_
  have g : ∀ us : List (Addr × Nat × Nat), (∀ t ∈ us, H t.1 = some (.tup (pairT t.2))) → DpAll K H (us.map fun t => V.ref t.1) ((us.map (·.2)).map cT) := fun us => by
    induction us with
    | nil => exact fun _ => .nil
    | cons u us ih => exact fun h => .cons (dp_pair (h u (List.mem_cons_self ..))) (ih fun t ht => h t (List.mem_cons_of_mem _ ht))
  exact g ts r
theorem Cpls.dp {K : PySem.W.Frag} {H0 H : Hp} {a : Addr} {ts : List (Addr × Nat × Nat)} (R : Cpls H0 H a ts) : Dp K H (.ref a) (cplP (ts.map (·.2))) := dp_cpl R.top R.row
theorem first_place {os : List Nat} (nd : os.Nodup) {i : Nat} (hi : i < os.length) : ∃ z, ((nums os).map PyData.int)[i]? = some z ∧ PyData.eqv z (.int (os[i] : Nat)) = true ∧ ∀ (m : Nat) (z' : PyData), m < i → ((nums os).map PyData.int)[m]? = some z' → PyData.eqv z' (.int (os[i] : Nat)) = false := by
  refine ⟨.int (os[i] : Nat), ?_, by simp [PyData.eqv], fun m z' hm e => ?_⟩
  · unfold nums
    rw [List.getElem?_map, List.getElem?_map, List.getElem?_eq_getElem hi]
    rfl
  · have ml : m < os.length := by omega
    unfold nums at e
    rw [List.getElem?_map, List.getElem?_map, List.getElem?_eq_getElem ml] at e
    cases e
    have : ¬ os[m] = os[i] := fun z => by
      have := (List.getElem_inj nd).mp z
      omega
    have t : ¬ ((os[m] : Nat) : Int) = (os[i] : Nat) := by omega
    simp [PyData.eqv, t]
end
end GL

/-! Deeds on companies of numbers. -/
namespace GL
open PySem PySem.Spec PyProof.Rows L2
/-- the tie of a and b (a below b) put to v -/
def setT (kss : List (List Int)) (b a : Nat) (v : Int) : List (List Int) := kss.set b ((kss.getD b []).set a v)
theorem setT_len (kss : List (List Int)) (b a : Nat) (v : Int) : (setT kss b a v).length = kss.length := List.length_set ..
theorem getD_set {α : Type} (l : List α) (i j : Nat) (x d : α) : (l.set i x).getD j d = if i = j ∧ j < l.length then x else l.getD j d := by
  rw [List.getD_eq_getElem?_getD, List.getElem?_set]
  by_cases h : i = j
  · subst h
    by_cases hl : i < l.length
    · rw [if_pos rfl, if_pos hl, if_pos ⟨rfl, hl⟩]
      rfl
    · rw [if_pos rfl, if_neg hl, if_neg (fun z => hl z.2), List.getD_eq_getElem?_getD, List.getElem?_eq_none (by omega)]
  · rw [if_neg h, if_neg (fun z => h z.1), List.getD_eq_getElem?_getD]
theorem Fine.row_len {k : Int} {kss : List (List Int)} (f : Fine k kss) {i : Nat} (hi : i < kss.length) : (kss.getD i []).length = i := by
  have := (f i _ (List.getElem?_eq_getElem hi)).1
  rw [List.getD_eq_getElem?_getD, List.getElem?_eq_getElem hi]
  exact this
theorem tie_setT {k : Int} {kss : List (List Int)} (f : Fine k kss) {a b : Nat} (ab : a < b) (hb : b < kss.length) (v : Int) (i j : Nat) : tieN (setT kss b a v) i j = if max i j = b ∧ min i j = a then v else tieN kss i j := by
  unfold tieN setT
  rw [getD_set]
  by_cases h : b = max i j ∧ max i j < kss.length
  · rw [if_pos h, getD_set, f.row_len hb]
    by_cases h2 : a = min i j ∧ min i j < b
    · rw [if_pos h2, if_pos ⟨h.1.symm, h2.1.symm⟩]
    · rw [if_neg h2, h.1, if_neg (by omega)]
  · rw [if_neg h, if_neg (by omega)]
theorem setT_fine {k : Int} {kss : List (List Int)} (f : Fine k kss) {a b : Nat} (hb : b < kss.length) {v : Int} (v0 : 0 ≤ v) (vk : v < k) : Fine k (setT kss b a v) := by
  intro i ks e
  unfold setT at e
  rw [List.getElem?_set] at e
  by_cases h : b = i
  · subst h
    rw [if_pos rfl, if_pos hb] at e
    cases e
    rw [List.length_set]
    refine ⟨f.row_len hb, fun z hz => ?_⟩
    rcases List.mem_or_eq_of_mem_set hz with h | h
    · refine (f b _ (List.getElem?_eq_getElem hb)).2 z ?_
      rw [List.getD_eq_getElem?_getD, List.getElem?_eq_getElem hb] at h
      exact h
    · subst h
      exact ⟨v0, vk⟩
  · rw [if_neg h] at e
    exact f i ks e
/-! ### fours -/
end GL

namespace GL
open PySem PySem.Spec PyProof.Rows L2
section
variable {J : It} {n : Nat} {G : Hp → Prop} {Y : Nat → Hp → V → Hp → Prop}
end
theorem walk_nat {n : Nat} : Walk (Itr 0 n) n (fun _ => True) (fun i H x H' => H' = H ∧ x = .int (i : Nat)) := ⟨fun _ _ hi _ => hi, fun _ _ => Nat.le_refl _, fun i _ x _ _ _ y => ⟨y.1, by rw [y.2, Int.zero_add]⟩⟩
theorem walk_from {a n : Nat} : Walk (Itr (a : Nat) n) n (fun _ => True) (fun i H x H' => H' = H ∧ x = .int ((a + i : Nat) : Int)) := ⟨fun _ _ hi _ => hi, fun _ _ => Nat.le_refl _, fun i _ x _ _ _ y => ⟨y.1, by rw [y.2]; congr 1⟩⟩
theorem gName_by {i : Nat} {v : V} {σ : L2.St} {H : Hp} {Q : L2.St → Hp → Prop} (h : Q (σ.set i (some v)) H) : gName i v σ H Q := h
end GL

namespace GL
open PySem PySem.Spec PyProof.Rows L2
/-- a number of one row is put -/
theorem Tab.put {H : Hp} {c r : Addr} {rs : List Addr} {kss : List (List Int)} {ks : List Int} {b a : Nat} {v : Int} (t : Tab H c rs kss) (hb : rs[b]? = some r) (hk : kss[b]? = some ks) (cr : c ∉ rs) :
    Tab (upd H r (.lst ((ks.map V.int).set a (.int v)))) c rs (setT kss b a v) := by
  have c1 : c ≠ r := fun z => cr (by rw [z]; exact List.mem_of_getElem? hb)
  refine ⟨by rw [upd_ne c1]; exact t.top, by rw [setT_len]; exact t.len, fun i q ls h1 h2 => ?_, t.nd⟩
  unfold setT at h2
  rw [List.getElem?_set] at h2
  by_cases e : b = i
  · subst e
    rw [if_pos rfl, if_pos (List.getElem?_eq_some_iff.mp hk).1] at h2
    cases h2
    rw [hb] at h1
    cases h1
    rw [upd_same, List.getD_eq_getElem?_getD, hk, List.map_set]
    rfl
  · rw [if_neg e] at h2
    have qr : q ≠ r := fun z => by
      subst z
      have h3 := List.getElem?_eq_some_iff.mp h1
      have h4 := List.getElem?_eq_some_iff.mp hb
      exact e ((List.getElem_inj t.nd).mp (h4.2.trans h3.2.symm))
    rw [upd_ne qr]
    exact t.row i q ls h1 h2
end GL

namespace GL
open PySem PySem.Spec PyProof.Rows L2
/-! ### the parts of a reading, by name -/
theorem tLc_of {wi : TI} {g : TG} {tt : TT} {te : TE} {vs : List Nat} {σ : L2.St} {H : Hp} {Q : VK} (h : wi σ H fun J H1 => ∀ D, H1 D = none → ∃ W : Nat → Nat → Hp → Prop, (∃ m, W 0 m (upd H1 D (.lst []))) ∧ ∀ i m H, W i m H →
  (J.stop i H ∧ Q (.ref D) H) ∨ (J.go i H ∧ ∃ Nx : Hp → Prop, (∀ H', Nx H' → ∃ m', m' < m ∧ W (i + 1) m' H') ∧ ∀ x H', J.yld i H x H' → g x (wipe σ vs) H' fun σ2 H2 => wipe σ2 vs = wipe σ vs ∧ tt σ2 H2 fun b H3 =>
    if b = true then te σ2 H3 fun y H4 => ∃ acc, H4 D = some (.lst acc) ∧ acc.length < sizeLine ∧ Nx (upd H4 D (.lst (acc ++ [y]))) else Nx H3)) : tLc wi g tt te vs σ H Q := h
theorem iRng2_of {ta : TA} {σ : L2.St} {H : Hp} {R : It → Hp → Prop} (h : ta σ H fun vs H1 => ∃ i j : Int, vs = [.int i, .int j] ∧ (-(2 ^ 62) ≤ i ∧ i < 2 ^ 62 ∧ -(2 ^ 62) ≤ j ∧ j < 2 ^ 62) ∧ R (Itr i (j - i).toNat) H1) : iRng2 ta σ H R := h
theorem tCons_of {t : TE} {u : TA} {σ : L2.St} {H : Hp} {Q : List V → Hp → Prop} (h : t σ H fun x H1 => u σ H1 fun xs H2 => Q (x :: xs) H2) : tCons t u σ H Q := h
theorem tAsg_of {t : TE} {g : TG} {D : Ends} {σ : L2.St} {H : Hp} (h : t σ H fun x H1 => g x σ H1 D.nx) : tAsg t g D σ H := h
theorem tSeq_of {a b : TS} {D : Ends} {σ : L2.St} {H : Hp} (h : a { D with nx := fun σ' H' => b D σ' H' } σ H) : tSeq a b D σ H := h
theorem tNext_of {D : Ends} {σ : L2.St} {H : Hp} (h : D.nx σ H) : tNext D σ H := h
/-- an expression by what it gives -/
theorem te_by {t : TE} {σ : L2.St} {H : Hp} {Q : VK} (R : V → Hp → Prop) (h1 : ∀ Q' : VK, (∀ v H', R v H' → Q' v H') → t σ H Q') (h2 : ∀ v H', R v H' → Q v H') : t σ H Q := h1 _ h2
theorem tIf_by {tA : TT} {ta tb : TE} {σ : L2.St} {H : Hp} {Q : VK} (R : V → Hp → Prop) (h1 : ∀ Q' : VK, (∀ v H', R v H' → Q' v H') → tIf tA ta tb σ H Q') (h2 : ∀ v H', R v H' → Q v H') : tIf tA ta tb σ H Q := h1 _ h2
/-! ### texts that fit -/
/-! ### lots -/
def loN (l : List Nat) : Nat := match l.getLast? with | none => 0 | some x => x + 1
def extN (n : Nat) (l : List Nat) : List (List Nat) := (List.range (n - loN l)).map fun j => l ++ [loN l + j]
def lotsK (n : Nat) : Nat → List (List Nat)
  | 0 => [[]]
  | m + 1 => (lotsK n m).flatMap (extN n)
theorem lots_len (n : Nat) : ∀ m, (lotsK n m).length ≤ n ^ m
  | 0 => Nat.le_refl _
  | m + 1 => by
    have ih := lots_len n m
    show ((lotsK n m).flatMap (extN n)).length ≤ _
    generalize lotsK n m = L at ih
    have : ∀ L : List (List Nat), (L.flatMap (extN n)).length ≤ L.length * n := fun L => by
      induction L with
      | nil => simp
      | cons a L ih =>
        rw [List.flatMap_cons, List.length_append, List.length_cons, Nat.succ_mul]
        have : (extN n a).length ≤ n := by
          unfold extN
          rw [List.length_map, List.length_range]
          omega
        omega
    rw [Nat.pow_succ]
    exact Nat.le_trans (this L) (Nat.mul_le_mul_right _ ih)
theorem ext_len (n : Nat) (l : List Nat) : (extN n l).length ≤ n := by
  unfold extN
  rw [List.length_map, List.length_range]
  omega
theorem lots_ok (n : Nat) : ∀ m, ∀ l ∈ lotsK n m, l.length = m ∧ loN l ≤ n
  | 0, l, h => by
    have h : l ∈ [[]] := h
    rw [List.mem_singleton] at h
    subst h
    exact ⟨rfl, Nat.zero_le _⟩
  | m + 1, l, h => by
    have h : l ∈ (lotsK n m).flatMap (extN n) := h
    obtain ⟨l', h1, h2⟩ := List.mem_flatMap.mp h
    obtain ⟨j, hj, rfl⟩ := List.mem_map.mp h2
    have := List.mem_range.mp hj
    obtain ⟨e, _⟩ := lots_ok n m l' h1
    refine ⟨by rw [List.length_append, e]; rfl, ?_⟩
    have : loN (l' ++ [loN l' + j]) = loN l' + j + 1 := by
      show (match (l' ++ [loN l' + j]).getLast? with | none => 0 | some x => x + 1) = _
      rw [List.getLast?_append]
      rfl
    omega
abbrev Lists (H0 H : Hp) (p : Addr) (rs : List Addr) (L : List (List Nat)) : Prop := Objs H0 H p rs L.length fun i => .lst (natV (L.getD i []))
theorem Objs.held {H0 H : Hp} {p : Addr} {rs : List Addr} {n : Nat} {o : Nat → HO} (a : Objs H0 H p rs n o) {r : Addr} (h : r ∈ rs) : ∃ u, H r = some u := by
  obtain ⟨j, hj⟩ := List.getElem?_of_mem h
  exact ⟨_, a.row j r hj⟩
theorem Lists.cat {H0 H1 H2 H3 : Hp} {p1 p2 p3 : Addr} {rs1 rs2 : List Addr} {L1 L2 : List (List Nat)} (a : Lists H0 H1 p1 rs1 L1) (b : Lists H1 H2 p2 rs2 L2) (s01 : Same H0 H1) (s12 : Same H1 H2) (s23 : Same H2 H3) (hp : H2 p3 = none) (h3 : H3 p3 = some (.lst (rs1.map V.ref ++ rs2.map V.ref))) :
    Lists H0 H3 p3 (rs1 ++ rs2) (L1 ++ L2) := by
  refine ⟨by rw [h3, List.map_append], by rw [List.length_append, List.length_append, a.len, b.len], fun i r h => ?_, ?_, ?_, fun r h => ?_⟩
  · by_cases c : i < rs1.length
    · rw [List.getElem?_append_left c] at h
      rw [s23 _ _ (s12 _ _ (a.row i r h)), List.getD_eq_getElem?_getD, List.getD_eq_getElem?_getD, List.getElem?_append_left (by rw [← a.len]; exact c)]
    · rw [List.getElem?_append_right (by omega)] at h
      have e := a.len
      rw [s23 _ _ (b.row _ r h), List.getD_eq_getElem?_getD, List.getD_eq_getElem?_getD, List.getElem?_append_right (by omega), e]
  · rw [List.nodup_append]
    refine ⟨a.nd, b.nd, fun x hx y hy z => ?_⟩
    subst z
    obtain ⟨u, hu⟩ := a.held hx
    rw [b.new x hy] at hu
    cases hu
  · intro h
    rcases List.mem_append.mp h with h | h
    · obtain ⟨u, hu⟩ := a.held h
      rw [s12 _ _ hu] at hp
      cases hp
    · obtain ⟨u, hu⟩ := b.held h
      rw [hu] at hp
      cases hp
  · rcases List.mem_append.mp h with h | h
    · exact a.new r h
    · exact s01.free (b.new r h)
def spLots : Sp := fun vs H Q _ => ∃ n m : Nat, vs = [.int n, .int m] ∧ n ≤ 20 ∧ m ≤ 5 ∧ ∀ (p : Addr) (rs : List Addr) (H' : Hp), Same H H' → H p = none → Lists H H' p rs (lotsK n m) → Q (.ref p) H'
theorem nat_last {l : List Nat} (h : l ≠ []) : ∃ x : Nat, loN l = x + 1 ∧ atI (natV l) (((natV l).length : Int) - 1) = some (.int x) := by
  have hl : 0 < l.length := List.length_pos_iff.mpr h
  refine ⟨l[l.length - 1], ?_, at_of (j := l.length - 1) ?_ ?_⟩
  · unfold loN
    rw [List.getLast?_eq_getElem?, List.getElem?_eq_getElem (by omega)]
  · unfold natV
    rw [List.length_map]
    omega
  · unfold natV
    rw [List.getElem?_map, List.getElem?_eq_getElem (by omega)]
    rfl
theorem take_flat (L : List (List Nat)) (f : List Nat → List (List Nat)) {i : Nat} (h : i < L.length) : (L.take (i + 1)).flatMap f = (L.take i).flatMap f ++ f (L.getD i []) := by
  rw [List.take_add_one, List.flatMap_append, List.getElem?_eq_getElem h, List.getD_eq_getElem?_getD, List.getElem?_eq_getElem h]
  show _ ++ [L[i]].flatMap f = _ ++ f L[i]
  rw [List.flatMap_cons, List.flatMap_nil, List.append_nil]
theorem flat_len (L : List (List Nat)) (n : Nat) : (L.flatMap (extN n)).length ≤ L.length * n := by
  induction L with
  | nil => simp
  | cons a L ih =>
    rw [List.flatMap_cons, List.length_append, List.length_cons, Nat.succ_mul]
    have := ext_len n a
    omega
end GL

namespace GL
open PySem PySem.Spec PyProof.Rows L2
def spLaw (K : PySem.W.Frag) : Sp := fun vs H Q _ => ∃ (a : Addr) (ns : List Int), vs = [.ref a] ∧ SqL K H a (ns.map V.int) ∧ ∀ H', Q (.bl true) H'
end GL

/-! Companies with the same words of threes and the same firm fours. -/
namespace GL
open PySem PySem.Spec PyProof.Rows L2
theorem combs_in (n : Nat) : ∀ r d lo, lo + d = n → ∀ l : List Nat, l.length = r → l.Pairwise (· < ·) → (∀ x ∈ l, lo ≤ x ∧ x < n) → l ∈ Cmb.combs n r d lo
  | 0, d, lo, _, l, hl, _, _ => by
    have : l = [] := List.length_eq_zero_iff.mp hl
    subst this
    cases d <;> (rw [Cmb.combs]; exact List.mem_singleton.mpr rfl)
  | r + 1, 0, lo, e, l, hl, _, b => by
    cases l with
    | nil => cases hl
    | cons x l =>
      have := b x (List.mem_cons_self ..)
      omega
  | r + 1, d + 1, lo, e, l, hl, pw, b => by
    rw [Cmb.combs, List.mem_append, List.mem_map]
    cases l with
    | nil => cases hl
    | cons x l =>
      obtain ⟨h1, h2⟩ := List.pairwise_cons.mp pw
      have bx := b x (List.mem_cons_self ..)
      by_cases c : x = lo
      · subst c
        exact .inl ⟨l, combs_in n r d (x + 1) (by omega) l (by simpa using hl) h2 (fun y hy => ⟨h1 y hy, (b y (List.mem_cons_of_mem _ hy)).2⟩), rfl⟩
      · refine .inr (combs_in n (r + 1) d (lo + 1) (by omega) (x :: l) hl pw fun y hy => ?_)
        have := b y hy
        rcases List.mem_cons.mp hy with rfl | hy
        · omega
        · have := h1 y hy
          omega
theorem choices_in {n r : Nat} {l : List Nat} (hl : l.length = r) (pw : l.Pairwise (· < ·)) (b : ∀ x ∈ l, x < n) : l ∈ Cmb.choices n r := combs_in n r n 0 (Nat.zero_add n) l hl pw fun x hx => ⟨Nat.zero_le _, b x hx⟩
end GL

namespace GL
open PySem PySem.Spec PyProof.Rows L2
theorem setT_twice (kss : List (List Int)) (b a : Nat) (v w : Int) : setT (setT kss b a v) b a w = setT kss b a w := by
  unfold setT
  rw [List.set_set]
  by_cases hb : b < kss.length
  · rw [getD_set, if_pos ⟨rfl, hb⟩, List.set_set]
  · rw [List.set_eq_of_length_le (by omega), List.set_eq_of_length_le (by omega)]
theorem setT_same {k : Int} {kss : List (List Int)} (f : Fine k kss) {a b : Nat} (ab : a < b) (bn : b < kss.length) : setT kss b a (tieN kss a b) = kss := by
  have e : tieN kss a b = (kss.getD b []).getD a 0 := by
    unfold tieN
    rw [Nat.max_eq_right (by omega), Nat.min_eq_left (by omega)]
  have la := f.row_len bn
  have e2 : (kss.getD b []).set a ((kss.getD b []).getD a 0) = kss.getD b [] := by
    rw [List.getD_eq_getElem?_getD (l := kss.getD b []), List.getElem?_eq_getElem (by omega)]
    exact List.set_getElem_self _
  unfold setT
  rw [e, e2, List.getD_eq_getElem?_getD, List.getElem?_eq_getElem bn]
  exact List.set_getElem_self _
end GL

namespace GL
/-! ### bits of naturals as sets of people -/
theorem or_pow {x p j : Nat} : (x ||| 2 ^ p).testBit j = (x.testBit j || decide (p = j)) := by rw [Nat.testBit_or, Nat.testBit_two_pow]
/-! ### houses by a table of ties -/
section
variable (t : Nat → Nat → Int) (n : Nat)
variable {t n} {l : Nat → Prop}
/-! ### growing -/
/-! ### the measure -/
end
end GL

namespace GL
open PySem PySem.Spec PyProof.Rows L2
/-! ### xs[i] op= e, and numbers as sets of people -/
theorem iand_nn (a b : Nat) : Builtin.bitAnd (a : Int) (b : Int) = ((a &&& b : Nat) : Int) := by
  rw [bitAnd_pp (Int.natCast_nonneg _) (Int.natCast_nonneg _)]
  rfl
theorem ior_nn (a b : Nat) : Builtin.bitOr (a : Int) (b : Int) = ((a ||| b : Nat) : Int) := by
  rw [Bits.bitOr_pp (Int.natCast_nonneg _) (Int.natCast_nonneg _)]
  rfl
theorem one_shl (p : Nat) : (1 : Int) * 2 ^ ((p : Nat) : Int).toNat = ((2 ^ p : Nat) : Int) := by
  rw [Int.toNat_natCast, Int.one_mul]
  exact (PySem.W.kbt_cast p).symm
theorem shr_nat (a p : Nat) : (a : Int) / 2 ^ ((p : Nat) : Int).toNat = ((a >>> p : Nat) : Int) := by
  rw [Int.toNat_natCast, ← PySem.W.kbt_cast p, Nat.shiftRight_eq_div_pow]
  exact (Int.natCast_ediv _ _).symm
/-- T & ~held -/
theorem and_not (T held : Nat) : ∃ r : Nat, Builtin.bitAnd (T : Int) (Builtin.bitNot (held : Int)) = (r : Int) ∧ ∀ j, r.testBit j = (T.testBit j && !held.testBit j) := by
  have n0 : ¬ 0 ≤ Builtin.bitNot (held : Int) := by
    show ¬ 0 ≤ -(held : Int) - 1
    omega
  have e : Builtin.bitNot (Builtin.bitNot (held : Int)) = (held : Int) := by
    show -(-(held : Int) - 1) - 1 = _
    omega
  have h := bitAnd_pn (Int.natCast_nonneg T) n0
  rw [e] at h
  refine ⟨T - (T &&& held), ?_, fun j => ?_⟩
  · rw [h]
    have := @Nat.and_le_left T held
    simp only [Int.toNat_natCast]
    omega
  · have k : T - (T &&& held) = T ^^^ (T &&& held) := by
      have a1 : (T &&& held) &&& (T ^^^ (T &&& held)) = 0 := Nat.eq_of_testBit_eq fun i => by
        simp only [Nat.testBit_and, Nat.testBit_xor, Nat.zero_testBit]
        cases T.testBit i <;> cases held.testBit i <;> rfl
      have a2 : (T &&& held) ||| (T ^^^ (T &&& held)) = T := Nat.eq_of_testBit_eq fun i => by
        simp only [Nat.testBit_and, Nat.testBit_xor, Nat.testBit_or]
        cases T.testBit i <;> cases held.testBit i <;> rfl
      have a3 : (T &&& held) + (T ^^^ (T &&& held)) = (T &&& held) ||| (T ^^^ (T &&& held)) := by
        have := nat_or_add_and (T &&& held) (T ^^^ (T &&& held))
        omega
      omega
    rw [k, Nat.testBit_xor, Nat.testBit_and]
    cases T.testBit j <;> cases held.testBit j <;> rfl
/-! the same as rules, for numbers that are not negative -/
def rN (f : Nat → Nat → Nat) : R2 := fun x y H Q => ∃ a b : Nat, x = .int (a : Int) ∧ y = .int (b : Int) ∧ Q (.int ((f a b : Nat) : Int)) H
section
variable {X : Cx}
theorem opN_or : OpR X (binaryOp .BitOr) (rN fun a b => a ||| b) := fun pins s σ H x y v u Q I r1 r2 ⟨a, b, e1, e2, q⟩ => op_or pins s σ H x y v u Q I r1 r2 ⟨a, b, e1, e2, by dsimp only; rw [ior_nn]; exact q⟩
theorem opN_and : OpR X (binaryOp .BitAnd) (rN fun a b => a &&& b) := fun pins s σ H x y v u Q I r1 r2 ⟨a, b, e1, e2, q⟩ => op_and pins s σ H x y v u Q I r1 r2 ⟨a, b, e1, e2, by dsimp only; rw [iand_nn]; exact q⟩
theorem iopN_or : PIp X .BitOr (rN fun a b => a ||| b) := fun pins s σ H x y v u Q I r1 r2 ⟨a, b, e1, e2, q⟩ => iop_or pins s σ H x y v u Q I r1 r2 ⟨a, b, e1, e2, by dsimp only; rw [ior_nn]; exact q⟩
/-- 1 << p -/
theorem opN_shl : OpR X (binaryOp .LShift) (fun x y H Q => ∃ p : Nat, x = .int 1 ∧ y = .int (p : Int) ∧ p ≤ 1000 ∧ Q (.int ((2 ^ p : Nat) : Int)) H) := fun pins s σ H x y v u Q I r1 r2 ⟨p, e1, e2, hp, q⟩ => op_shl pins s σ H x y v u Q I r1 r2 ⟨1, p, e1, e2, ⟨by omega, by omega, by decide⟩, by
  dsimp only
  rw [one_shl]
  exact q⟩
theorem opN_shr : OpR X (binaryOp .RShift) (rN fun a p => a >>> p) := fun pins s σ H x y v u Q I r1 r2 ⟨a, p, e1, e2, q⟩ => op_shr pins s σ H x y v u Q I r1 r2 ⟨a, p, e1, e2, by omega, by
  dsimp only
  rw [shr_nat]
  exact q⟩
end
end GL

/-! Leagues: who beat whom by bits, who comes next, turns; dicts of numbers, dict comprehensions. -/
namespace GL
open PySem PySem.Spec PyProof.Rows L2
/-! ### numbers by their bits -/
/-- whose ties have been gone through: all of the persons ahead of m, and those of m to the persons ahead of r -/
def Seen (m r i j : Nat) : Prop := i ≠ j ∧ (max i j < m ∨ (max i j = m ∧ min i j < r))
instance (m r i j : Nat) : Decidable (Seen m r i j) := by unfold Seen; exact inferInstance
/-- bits by a test -/
def bitsBy (n : Nat) (f : Nat → Bool) : Nat := ((List.range n).filter f).foldl (fun b p => b ||| 2 ^ p) 0
theorem fold_bit (j : Nat) : ∀ (l : List Nat) (b : Nat), (l.foldl (fun b p => b ||| 2 ^ p) b).testBit j = (b.testBit j || decide (j ∈ l))
  | [], b => by simp
  | p :: l, b => by
    rw [List.foldl_cons, fold_bit j l, or_pow]
    by_cases h : p = j
    · subst h
      simp
    · have h' : ¬ j = p := fun z => h z.symm
      simp [h, h']
theorem bitsBy_bit (n : Nat) (f : Nat → Bool) (j : Nat) : (bitsBy n f).testBit j = (decide (j < n) && f j) := by
  unfold bitsBy
  rw [fold_bit, Nat.zero_testBit, Bool.false_or]
  by_cases h : j < n <;> cases e : f j <;> simp [h, e]
def bitsN (l : List Nat) : Nat := l.foldl (fun b p => b ||| 2 ^ p) 0
theorem bitsN_bit (l : List Nat) (j : Nat) : (bitsN l).testBit j = decide (j ∈ l) := by
  unfold bitsN
  rw [fold_bit, Nat.zero_testBit, Bool.false_or]
theorem seen_row {m i j : Nat} : Seen m m i j ↔ Seen (m + 1) 0 i j := by unfold Seen; omega
theorem seen_next {m r i j : Nat} (h : r < m) : Seen m (r + 1) i j ↔ Seen m r i j ∨ (i = m ∧ j = r) ∨ (i = r ∧ j = m) := by unfold Seen; omega
/-! ### leagues -/
/-- who beat whom -/
def wonB (kss : List (List Int)) (i j : Nat) : Bool := if j < i then decide (tieN kss i j = 1) else decide (tieN kss i j = 0)
theorem won_anti {kss : List (List Int)} (f : Fine 2 kss) {i j : Nat} (hi : i < kss.length) (hj : j < kss.length) (ne : i ≠ j) : wonB kss j i = !wonB kss i j := by
  obtain ⟨t0, t1⟩ := tieN_in f hi hj ne
  unfold wonB
  rw [tieN_comm kss j i]
  obtain e | e : tieN kss i j = 0 ∨ tieN kss i j = 1 := by omega
  · rw [e]
    by_cases c : j < i
    · rw [if_neg (by omega), if_pos c]; rfl
    · rw [if_pos (by omega), if_neg c]; rfl
  · rw [e]
    by_cases c : j < i
    · rw [if_neg (by omega), if_pos c]; rfl
    · rw [if_pos (by omega), if_neg c]; rfl
def alikeL (kss : List (List Int)) (a b : Nat) : Bool := (List.range kss.length).all fun m => m == a || m == b || decide (wonB kss m a = wonB kss m b)
theorem alikeL_iff {kss : List (List Int)} {a b : Nat} : alikeL kss a b = true ↔ ∀ m, m < kss.length → m ≠ a → m ≠ b → wonB kss m a = wonB kss m b := by
  unfold alikeL
  rw [List.all_eq_true]
  constructor
  · intro h m hm ma mb
    have := h m (List.mem_range.mpr hm)
    simp only [Bool.or_eq_true, beq_iff_eq, decide_eq_true_eq] at this
    rcases this with (e | e) | e
    · exact absurd e ma
    · exact absurd e mb
    · exact e
  · intro h m hm
    simp only [Bool.or_eq_true, beq_iff_eq, decide_eq_true_eq]
    by_cases ma : m = a
    · exact .inl (.inl ma)
    by_cases mb : m = b
    · exact .inl (.inr mb)
    exact .inr (h m (List.mem_range.mp hm) ma mb)
theorem alikeL_comm (kss : List (List Int)) (a b : Nat) : alikeL kss a b = alikeL kss b a := by
  rw [Bool.eq_iff_iff, alikeL_iff, alikeL_iff]
  exact ⟨fun h m hm x y => (h m hm y x).symm, fun h m hm x y => (h m hm y x).symm⟩
/-- whom each person beat, as far as gone through -/
def btN (kss : List (List Int)) (m r i : Nat) : Nat := bitsBy kss.length fun j => decide (Seen m r i j) && wonB kss i j
theorem btN_bit (kss : List (List Int)) (m r i j : Nat) : (btN kss m r i).testBit j = (decide (j < kss.length) && (decide (Seen m r i j) && wonB kss i j)) := bitsBy_bit _ _ _
theorem btN_row (kss : List (List Int)) (m : Nat) : btN kss m m = btN kss (m + 1) 0 := by
  funext i
  refine Nat.eq_of_testBit_eq fun j => ?_
  rw [btN_bit, btN_bit, decide_eq_decide.mpr (seen_row (m := m) (i := i) (j := j))]
theorem btN_zero (kss : List (List Int)) (i : Nat) : btN kss 0 0 i = 0 := by
  refine Nat.eq_of_testBit_eq fun j => ?_
  rw [btN_bit, decide_eq_false (fun z : Seen 0 0 i j => by unfold Seen at z; omega), Nat.zero_testBit]
  simp
theorem btN_next {kss : List (List Int)} (f : Fine 2 kss) {m r : Nat} (h : r < m) (hm : m < kss.length) (i : Nat) : btN kss m (r + 1) i = if wonB kss m r = true then (if i = m then btN kss m r m ||| 2 ^ r else btN kss m r i) else (if i = r then btN kss m r r ||| 2 ^ m else btN kss m r i) := by
  have an := won_anti f (i := m) (j := r) hm (by omega) (by omega)
  refine Nat.eq_of_testBit_eq fun j => ?_
  have key : (btN kss m (r + 1) i).testBit j = ((btN kss m r i).testBit j || (decide (j < kss.length) && (decide ((i = m ∧ j = r) ∨ (i = r ∧ j = m)) && wonB kss i j))) := by
    rw [btN_bit, btN_bit, decide_eq_decide.mpr (seen_next (i := i) (j := j) h), Bool.decide_or]
    cases decide (j < kss.length) <;> cases decide (Seen m r i j) <;> cases wonB kss i j <;> simp
  rw [key]
  cases w : wonB kss m r with
  | true =>
    rw [w] at an
    rw [if_pos rfl]
    by_cases c : i = m
    · subst c
      rw [if_pos rfl, or_pow]
      congr 1
      by_cases c2 : r = j
      · subst c2
        have : ¬ i = r := by omega
        simp [w, this]
        omega
      · have c2' : ¬ j = r := fun z => c2 z.symm
        have : ¬ i = r := by omega
        simp [c2, c2', this]
    · rw [if_neg c]
      by_cases c2 : i = r ∧ j = m
      · obtain ⟨rfl, rfl⟩ := c2
        simp [an]
      · have : decide ((i = m ∧ j = r) ∨ (i = r ∧ j = m)) = false := decide_eq_false fun z => by omega
        simp [this]
  | false =>
    rw [w] at an
    rw [if_neg (by decide)]
    by_cases c : i = r
    · subst c
      rw [if_pos rfl, or_pow]
      congr 1
      by_cases c2 : m = j
      · subst c2
        simp [an, hm]
      · have c2' : ¬ j = m := fun z => c2 z.symm
        have : ¬ i = m := by omega
        simp [c2, c2', this]
    · rw [if_neg c]
      by_cases c2 : i = m ∧ j = r
      · obtain ⟨rfl, rfl⟩ := c2
        simp [w]
      · have : decide ((i = m ∧ j = r) ∨ (i = r ∧ j = m)) = false := decide_eq_false fun z => by omega
        simp [this]
/-- whom a person beat -/
def beatN (kss : List (List Int)) (i : Nat) : Nat := btN kss kss.length 0 i
theorem beatN_bit (kss : List (List Int)) {i j : Nat} (hi : i < kss.length) : (beatN kss i).testBit j = (decide (j < kss.length) && (decide (i ≠ j) && wonB kss i j)) := by
  unfold beatN
  rw [btN_bit]
  by_cases h : j < kss.length
  · have : Seen kss.length 0 i j ↔ i ≠ j := by unfold Seen; omega
    rw [decide_eq_decide.mpr this]
  · simp [h]
theorem beatN_at {kss : List (List Int)} {i j : Nat} (hi : i < kss.length) (hj : j < kss.length) (ne : i ≠ j) : (beatN kss i).testBit j = wonB kss i j := by
  rw [beatN_bit kss hi]
  simp [hj, ne]
theorem beatN_own {kss : List (List Int)} {i : Nat} (hi : i < kss.length) : (beatN kss i).testBit i = false := by
  rw [beatN_bit kss hi]
  simp
theorem beatN_out {kss : List (List Int)} {i j : Nat} (hi : i < kss.length) (hj : ¬ j < kss.length) : (beatN kss i).testBit j = false := by
  rw [beatN_bit kss hi]
  simp [hj]
/-- next to one another: the one beat just the other and whom this one beat -/
theorem next_iff {kss : List (List Int)} (f : Fine 2 kss) {a b : Nat} (ha : a < kss.length) (hb : b < kss.length) : beatN kss a = beatN kss b ||| 2 ^ b ↔ a ≠ b ∧ wonB kss a b = true ∧ alikeL kss a b = true := by
  constructor
  · intro e
    have at_ : ∀ j, (beatN kss a).testBit j = ((beatN kss b).testBit j || decide (b = j)) := fun j => by rw [e, or_pow]
    have ne : a ≠ b := fun z => by
      have := at_ b
      rw [z, beatN_own hb] at this
      simp at this
    have w : wonB kss a b = true := by
      have := at_ b
      rw [beatN_at ha hb ne] at this
      simpa using this
    refine ⟨ne, w, alikeL_iff.mpr fun m hm ma mb => ?_⟩
    have := at_ m
    rw [beatN_at ha hm (Ne.symm ma), beatN_at hb hm (Ne.symm mb), decide_eq_false (fun z => mb z.symm), Bool.or_false] at this
    rw [won_anti f ha hm (Ne.symm ma), won_anti f hb hm (Ne.symm mb), this]
  · rintro ⟨ne, w, al⟩
    refine Nat.eq_of_testBit_eq fun j => ?_
    rw [or_pow]
    by_cases hj : j < kss.length
    · by_cases ja : j = a
      · subst ja
        rw [beatN_own ha, beatN_at hb ha (Ne.symm ne), won_anti f ha hb ne, w, decide_eq_false (Ne.symm ne)]
        rfl
      by_cases jb : j = b
      · subst jb
        rw [beatN_at ha hb ne, w]
        simp
      rw [beatN_at ha hj (Ne.symm ja), beatN_at hb hj (Ne.symm jb), decide_eq_false (fun z => jb z.symm), Bool.or_false]
      have := alikeL_iff.mp al j hj ja jb
      rw [won_anti f ha hj (Ne.symm ja), won_anti f hb hj (Ne.symm jb)] at this
      simpa using this
    · rw [beatN_out ha hj, beatN_out hb hj, decide_eq_false (fun z => hj (by omega))]
      rfl
theorem with_inj {kss : List (List Int)} (f : Fine 2 kss) {a b : Nat} (ha : a < kss.length) (hb : b < kss.length) (e : beatN kss a ||| 2 ^ a = beatN kss b ||| 2 ^ b) : a = b := by
  refine Classical.byContradiction fun ne => ?_
  have ne : a ≠ b := ne
  have at_ : ∀ j, ((beatN kss a).testBit j || decide (a = j)) = ((beatN kss b).testBit j || decide (b = j)) := fun j => by rw [← or_pow, ← or_pow, e]
  have h1 := at_ b
  have h2 := at_ a
  rw [beatN_at ha hb ne, beatN_own hb, decide_eq_false ne] at h1
  rw [beatN_at hb ha (Ne.symm ne), beatN_own ha, decide_eq_false (Ne.symm ne)] at h2
  rw [won_anti f ha hb ne] at h2
  cases w : wonB kss a b with
  | true => rw [w] at h2; simp at h2
  | false => rw [w] at h1; simp at h1
/-- who comes next behind a person -/
def nextP (kss : List (List Int)) (p : Nat) : Option Nat := (List.range kss.length).find? fun q => decide (beatN kss p = beatN kss q ||| 2 ^ q)
theorem nextP_some {kss : List (List Int)} (f : Fine 2 kss) {p q : Nat} (hp : p < kss.length) : nextP kss p = some q ↔ q < kss.length ∧ p ≠ q ∧ wonB kss p q = true ∧ alikeL kss p q = true := by
  unfold nextP
  constructor
  · intro h
    have h1 := List.mem_range.mp (List.mem_of_find?_eq_some h)
    have h2 := List.find?_some h
    exact ⟨h1, (next_iff f hp h1).mp (of_decide_eq_true h2)⟩
  · rintro ⟨hq, h⟩
    have e := (next_iff f hp hq).mpr h
    cases c : (List.range kss.length).find? (fun q => decide (beatN kss p = beatN kss q ||| 2 ^ q)) with
    | none =>
      have := List.find?_eq_none.mp c q (List.mem_range.mpr hq)
      simp [e] at this
    | some q' =>
      have h1 := List.mem_range.mp (List.mem_of_find?_eq_some c)
      have h2 := List.find?_some c
      have h2 := of_decide_eq_true h2
      rw [with_inj f h1 hq (h2.symm.trans e)]
/-- the persons who have a next one, with it -/
def nextsTo (kss : List (List Int)) (m : Nat) : List (Nat × Nat) := (List.range m).filterMap fun p => (nextP kss p).map fun q => (p, q)
def lowHigh (c : Nat × Nat) : Nat × Nat := (min c.1 c.2, max c.1 c.2)
theorem nexts_mem {kss : List (List Int)} {m p q : Nat} : (p, q) ∈ nextsTo kss m ↔ p < m ∧ nextP kss p = some q := by
  unfold nextsTo
  rw [List.mem_filterMap]
  constructor
  · rintro ⟨a, ha, h⟩
    cases e : nextP kss a with
    | none => rw [e] at h; cases h
    | some b =>
      rw [e] at h
      have h : (a, b) = (p, q) := Option.some.inj h
      cases h
      exact ⟨List.mem_range.mp ha, e⟩
  · rintro ⟨hp, e⟩
    exact ⟨p, List.mem_range.mpr hp, by rw [e]; rfl⟩
/-- all couples who stand alike, in order -/
def cplL (kss : List (List Int)) : List (Nat × Nat) := (cplTo kss.length kss.length).filter fun c => alikeL kss c.1 c.2
theorem nexts_couples {kss : List (List Int)} (f : Fine 2 kss) (c : Nat × Nat) : c ∈ (nextsTo kss kss.length).map lowHigh ↔ c ∈ cplL kss := by
  obtain ⟨a, b⟩ := c
  unfold cplL
  rw [List.mem_filter, cpl_mem, List.mem_map]
  constructor
  · rintro ⟨⟨p, q⟩, h, e⟩
    obtain ⟨hp, h⟩ := nexts_mem.mp h
    obtain ⟨hq, ne, w, al⟩ := (nextP_some f hp).mp h
    have e1 : min p q = a := congrArg Prod.fst e
    have e2 : max p q = b := congrArg Prod.snd e
    refine ⟨by omega, ?_⟩
    by_cases c : p < q
    · have : a = p := by omega
      have : b = q := by omega
      subst_vars
      dsimp only
      rw [show min p q = p by omega, show max p q = q by omega]
      exact al
    · dsimp only
      rw [show a = q by omega, show b = p by omega, alikeL_comm]
      exact al
  · rintro ⟨⟨_, ab, hb⟩, al⟩
    have ha : a < kss.length := by omega
    cases w : wonB kss a b with
    | true => exact ⟨(a, b), nexts_mem.mpr ⟨ha, (nextP_some f ha).mpr ⟨hb, by omega, w, al⟩⟩, by unfold lowHigh; dsimp only; rw [show min a b = a by omega, show max a b = b by omega]⟩
    | false =>
      have w' : wonB kss b a = true := by rw [won_anti f ha hb (by omega), w]; rfl
      exact ⟨(b, a), nexts_mem.mpr ⟨hb, (nextP_some f hb).mpr ⟨ha, by omega, w', by rw [alikeL_comm]; exact al⟩⟩, by unfold lowHigh; dsimp only; rw [show min b a = a by omega, show max b a = b by omega]⟩
theorem nexts_nodup {kss : List (List Int)} (f : Fine 2 kss) : ((nextsTo kss kss.length).map lowHigh).Nodup := by
  unfold nextsTo
  have nd : (List.range kss.length).Nodup := List.nodup_range
  rw [List.Nodup, List.pairwise_map, List.pairwise_filterMap]
  refine List.Pairwise.imp_of_mem ?_ nd
  intro p p' hp hp' ne x hx y hy e
  have hp := List.mem_range.mp hp
  have hp' := List.mem_range.mp hp'
  cases e1 : nextP kss p with
  | none => rw [e1] at hx; cases hx
  | some q =>
    cases e2 : nextP kss p' with
    | none => rw [e2] at hy; cases hy
    | some q' =>
      rw [e1] at hx
      rw [e2] at hy
      have hx : (p, q) = x := Option.some.inj hx
      have hy : (p', q') = y := Option.some.inj hy
      subst hx
      subst hy
      obtain ⟨hq, n1, w1, _⟩ := (nextP_some f hp).mp e1
      obtain ⟨hq', n2, w2, _⟩ := (nextP_some f hp').mp e2
      have m1 : min p q = min p' q' := congrArg Prod.fst e
      have m2 : max p q = max p' q' := congrArg Prod.snd e
      have : p = q' ∧ q = p' := by omega
      obtain ⟨rfl, rfl⟩ := this
      rw [won_anti f hp hq n1, w1] at w2
      cases w2
/-! ### couples in order -/
def lexN (c d : Nat × Nat) : Prop := c.1 < d.1 ∨ (c.1 = d.1 ∧ c.2 < d.2)
theorem cpl_sorted (n : Nat) : ∀ m, (cplTo n m).Pairwise lexN
  | 0 => .nil
  | m + 1 => by
    unfold cplTo
    rw [List.pairwise_append]
    refine ⟨cpl_sorted n m, ?_, ?_⟩
    · rw [List.pairwise_map]
      exact List.pairwise_lt_range.imp fun h => .inr ⟨rfl, by show m + 1 + _ < m + 1 + _; omega⟩
    · rintro ⟨a, b⟩ h1 c h2
      obtain ⟨j, _, rfl⟩ := List.mem_map.mp h2
      have := ((cpl_mem n m a b).mp h1).1
      exact .inl this
theorem strict_ext {α : Type} {lt : α → α → Prop} (ir : ∀ a, ¬ lt a a) (as : ∀ a b, lt a b → ¬ lt b a) : ∀ {l m : List α}, l.Pairwise lt → m.Pairwise lt → (∀ j, j ∈ l ↔ j ∈ m) → l = m := by
  intro l
  induction l with
  | nil =>
    intro m _ _ h
    cases m with
    | nil => rfl
    | cons a m => exact absurd ((h a).mpr (List.mem_cons_self ..)) (by simp)
  | cons a l ih =>
    intro m hl hm h
    cases m with
    | nil => exact absurd ((h a).mp (List.mem_cons_self ..)) (by simp)
    | cons b m =>
      obtain ⟨l1, l2⟩ := List.pairwise_cons.mp hl
      obtain ⟨m1, m2⟩ := List.pairwise_cons.mp hm
      have ab : a = b := by
        rcases List.mem_cons.mp ((h a).mp (List.mem_cons_self ..)) with e | e
        · exact e
        · rcases List.mem_cons.mp ((h b).mpr (List.mem_cons_self ..)) with e2 | e2
          · exact e2.symm
          · exact absurd (l1 b e2) (as _ _ (m1 a e))
      subst ab
      congr 1
      refine ih l2 m2 fun j => ?_
      constructor
      · intro hj
        rcases List.mem_cons.mp ((h j).mp (List.mem_cons_of_mem _ hj)) with e | e
        · subst e
          exact absurd (l1 _ hj) (ir _)
        · exact e
      · intro hj
        rcases List.mem_cons.mp ((h j).mpr (List.mem_cons_of_mem _ hj)) with e | e
        · subst e
          exact absurd (m1 _ hj) (ir _)
        · exact e
theorem lex_ext {l m : List (Nat × Nat)} (hl : l.Pairwise lexN) (hm : m.Pairwise lexN) (h : ∀ j, j ∈ l ↔ j ∈ m) : l = m :=
  strict_ext (lt := lexN) (fun a h => by unfold lexN at h; omega) (fun a b h h' => by unfold lexN at h h'; omega) hl hm h
theorem cplL_sorted (kss : List (List Int)) : (cplL kss).Pairwise lexN := (cpl_sorted _ _).sublist List.filter_sublist
/-! ### a turn -/
def turnK (kss : List (List Int)) (a b : Nat) : List (List Int) := setT kss b a (1 - tieN kss a b)
theorem turnK_len (kss : List (List Int)) (a b : Nat) : (turnK kss a b).length = kss.length := setT_len ..
theorem turnK_fine {kss : List (List Int)} (f : Fine 2 kss) {a b : Nat} (ab : a < b) (hb : b < kss.length) : Fine 2 (turnK kss a b) := by
  obtain ⟨t0, t1⟩ := tieN_in f (i := a) (j := b) (by omega) hb (by omega)
  exact setT_fine f hb (by omega) (by omega)
theorem turnK_back {kss : List (List Int)} (f : Fine 2 kss) {a b : Nat} (ab : a < b) (hb : b < kss.length) : turnK (turnK kss a b) a b = kss := by
  unfold turnK
  rw [setT_twice, tie_setT f ab hb, if_pos ⟨by omega, by omega⟩, show 1 - (1 - tieN kss a b) = tieN kss a b by omega, setT_same f ab hb]
theorem won_turn {kss : List (List Int)} (f : Fine 2 kss) {a b : Nat} (ab : a < b) (hb : b < kss.length) {i j : Nat} (h : ¬ (max i j = b ∧ min i j = a)) : wonB (turnK kss a b) i j = wonB kss i j := by
  unfold wonB turnK
  rw [tie_setT f ab hb, if_neg h]
theorem alike_turn {kss : List (List Int)} (f : Fine 2 kss) {a b : Nat} (ab : a < b) (hb : b < kss.length) (h : alikeL kss a b = true) : alikeL (turnK kss a b) a b = true := by
  refine alikeL_iff.mpr fun m hm ma mb => ?_
  rw [turnK_len] at hm
  rw [won_turn f ab hb (by omega), won_turn f ab hb (by omega)]
  exact alikeL_iff.mp h m hm ma mb
/-! ### dicts of numbers -/
/-- the numbers h i at the numbers g i, i below n -/
def dG (n : Nat) (g h : Nat → Nat) : List (Key × V) := (List.range n).map fun i => ((Sum.inl ((g i : Nat) : Int) : Key), V.int ((h i : Nat) : Int))
theorem dG_len (n : Nat) (g h : Nat → Nat) : (dG n g h).length = n := by
  unfold dG
  rw [List.length_map, List.length_range]
theorem dG_val (n : Nat) (g h : Nat → Nat) (k : Nat) : valV (dG n g h) (Sum.inl ((k : Nat) : Int)) = ((List.range n).find? fun i => decide (g i = k)).map fun i => V.int ((h i : Nat) : Int) := by
  unfold valV dG
  rw [List.find?_map, Option.map_map]
  have e : ((fun kv : Key × V => decide (kv.1 = Sum.inl ((k : Nat) : Int))) ∘ fun i => ((Sum.inl ((g i : Nat) : Int) : Key), V.int ((h i : Nat) : Int))) = fun i => decide (g i = k) := by
    funext i
    show decide ((Sum.inl ((g i : Nat) : Int) : Key) = Sum.inl ((k : Nat) : Int)) = _
    exact decide_eq_decide.mpr ⟨fun z => by have := Sum.inl.inj z; omega, fun z => by rw [z]⟩
  rw [e]
  rfl
theorem find_range {n i : Nat} {f : Nat → Bool} (h : i < n) (hf : f i = true) (u : ∀ j, j < n → f j = true → j = i) : (List.range n).find? f = some i := by
  cases c : (List.range n).find? f with
  | none =>
    have := List.find?_eq_none.mp c i (List.mem_range.mpr h)
    exact absurd hf this
  | some j =>
    rw [u j (List.mem_range.mp (List.mem_of_find?_eq_some c)) (List.find?_some c)]
theorem dG_at {n : Nat} {g h : Nat → Nat} {i : Nat} (hi : i < n) (u : ∀ j, j < n → g j = g i → j = i) : valV (dG n g h) (Sum.inl ((g i : Nat) : Int)) = some (V.int ((h i : Nat) : Int)) := by
  rw [dG_val, find_range hi (decide_eq_true rfl) fun j hj e => u j hj (of_decide_eq_true e)]
  rfl
theorem putK_new {kvs : List (Key × V)} {k : Key} {v : V} (h : valV kvs k = none) : putK kvs k v = kvs ++ [(k, v)] := by
  unfold putK
  rw [valV_any, h]
  rfl
theorem dG_more {n : Nat} {g h : Nat → Nat} (u : ∀ j, j < n → g j ≠ g n) : putK (dG n g h) (Sum.inl ((g n : Nat) : Int)) (V.int ((h n : Nat) : Int)) = dG (n + 1) g h := by
  rw [putK_new]
  · unfold dG
    rw [List.range_succ, List.map_append]
    rfl
  · rw [dG_val, find_none fun p hp => decide_eq_false (u p hp)]
    rfl
/-- by the persons themselves -/
abbrev dD (n : Nat) (f : Nat → Nat) : List (Key × V) := dG n (fun i => i) f
theorem dD_at {n i : Nat} {f : Nat → Nat} (h : i < n) : valV (dD n f) (Sum.inl ((i : Nat) : Int)) = some (V.int ((f i : Nat) : Int)) := dG_at (g := fun i => i) h fun _ _ e => e
theorem dD_more {n : Nat} {f : Nat → Nat} : putK (dD n f) (Sum.inl ((n : Nat) : Int)) (V.int ((f n : Nat) : Int)) = dD (n + 1) f := dG_more (g := fun i => i) fun j hj e => by
  have e : j = n := e
  omega
theorem dD_put {n i v : Nat} {f : Nat → Nat} (h : i < n) : putK (dD n f) (Sum.inl ((i : Nat) : Int)) (V.int ((v : Nat) : Int)) = dD n fun j => if j = i then v else f j := by
  unfold putK
  rw [valV_any, dD_at h]
  show (dD n f).map _ = _
  unfold dD dG
  rw [List.map_map]
  refine List.map_congr_left fun j _ => ?_
  show (if (Sum.inl ((j : Nat) : Int) : Key) = Sum.inl ((i : Nat) : Int) then _ else _) = _
  by_cases c : j = i
  · subst c
    rw [if_pos rfl]
    show (_, V.int ((v : Nat) : Int)) = (_, V.int (((if j = j then v else f j) : Nat) : Int))
    rw [if_pos rfl]
  · rw [if_neg (fun z => c (by have := Sum.inl.inj z; omega))]
    show (_, V.int ((f j : Nat) : Int)) = (_, V.int (((if j = i then v else f j) : Nat) : Int))
    rw [if_neg c]
theorem dD_congr {n : Nat} {f g : Nat → Nat} (h : ∀ i, i < n → f i = g i) : dD n f = dD n g := by
  unfold dD dG
  exact List.map_congr_left fun i hi => by rw [h i (List.mem_range.mp hi)]
/-- numbers at numbers, by couples -/
def dP (cs : List (Nat × Nat)) : List (Key × V) := cs.map fun c => ((Sum.inl ((c.1 : Nat) : Int) : Key), V.int ((c.2 : Nat) : Int))
theorem dP_put {cs : List (Nat × Nat)} {p q : Nat} (h : ∀ c ∈ cs, c.1 ≠ p) : putK (dP cs) (Sum.inl ((p : Nat) : Int)) (V.int ((q : Nat) : Int)) = dP (cs ++ [(p, q)]) := by
  rw [putK_new]
  · unfold dP
    rw [List.map_append]
    rfl
  · unfold valV
    rw [List.find?_eq_none.mpr]
    · rfl
    intro x hx
    obtain ⟨c, hc, rfl⟩ := List.mem_map.mp hx
    simp only [decide_eq_true_eq]
    intro z
    have := Sum.inl.inj z
    exact h c hc (by omega)
section
variable {J : It} {n : Nat} {G : Hp → Prop} {Y : Nat → Hp → V → Hp → Prop}
/-- a dict comprehension over anything that is walked -/
theorem dc_it (w : Walk J n G Y) {g : TG} {tt : TT} {tk tv : TE} {vs : List Nat} {σ : L2.St} {H1 : Hp} {D : Addr} {Qd : Hp → Prop} (Pv : Nat → Hp → Prop) (h0 : Pv 0 (upd H1 D (.dK []))) (hl : ∀ i H, i ≤ n → Pv i H → G H)
    (hs : ∀ i x H H', i < n → Pv i H → Y i H x H' → g x (wipe σ vs) H' fun σ2 H2 => wipe σ2 vs = wipe σ vs ∧ tt σ2 H2 fun b H3 =>
      if b = true then tk σ2 H3 fun y H4 => tv σ2 H4 fun z H5 => ∃ kvs k, y = kV k ∧ H5 D = some (.dK kvs) ∧ kvs.length < sizeLine ∧ Pv (i + 1) (upd H5 D (.dK (putK kvs k z))) else Pv (i + 1) H3) (hd : ∀ H, Pv n H → Qd H) :
    ∃ W : Nat → Nat → Hp → Prop, (∃ m, W 0 m (upd H1 D (.dK []))) ∧ ∀ i m H, W i m H →
      (J.stop i H ∧ Qd H) ∨ (J.go i H ∧ ∃ Nx : Hp → Prop, (∀ H', Nx H' → ∃ m', m' < m ∧ W (i + 1) m' H') ∧ ∀ x H', J.yld i H x H' → g x (wipe σ vs) H' fun σ2 H2 => wipe σ2 vs = wipe σ vs ∧ tt σ2 H2 fun b H3 =>
        if b = true then tk σ2 H3 fun y H4 => tv σ2 H4 fun z H5 => ∃ kvs k, y = kV k ∧ H5 D = some (.dK kvs) ∧ kvs.length < sizeLine ∧ Nx (upd H5 D (.dK (putK kvs k z))) else Nx H3) := by
  refine ⟨fun i m H => m = n - i ∧ i ≤ n ∧ Pv i H, ⟨n, by simp, Nat.zero_le _, h0⟩, ?_⟩
  rintro i m H ⟨rfl, hi, p⟩
  by_cases hlt : i < n
  · exact .inr ⟨w.goes i H hlt (hl i H hi p), Pv (i + 1), fun H' p' => ⟨n - (i + 1), by omega, rfl, hlt, p'⟩, fun x H' y => hs i x H H' hlt p (w.yields i H x H' hlt (hl i H hi p) y)⟩
  · have e : i = n := by omega
    subst e
    exact .inl ⟨w.stops H (hl _ _ hi p), hd H p⟩
end
end GL

namespace GL
open PySem PySem.Spec PyProof.Rows L2
theorem getN {H : Hp} {D : Addr} {n i : Nat} {f : Nat → Nat} (h : H D = some (.dK (dD n f))) (hi : i < n) : DGet H D (.int ((i : Nat) : Int)) (some (.int ((f i : Nat) : Int))) := by
  rw [← dD_at (f := f) hi]
  exact DGet.k (k := Sum.inl ((i : Nat) : Int)) h
theorem putN {H : Hp} {D : Addr} {n : Nat} {f : Nat → Nat} {v : V} (i : Nat) (h : H D = some (.dK (dD n f))) (hn : n < 1000) : DPut H D (.int ((i : Nat) : Int)) v (upd H D (.dK (putK (dD n f) (Sum.inl ((i : Nat) : Int)) v))) :=
  DPut.k (k := Sum.inl ((i : Nat) : Int)) h (by rw [dG_len]; exact small1000 (by omega))
theorem dG_get {n i : Nat} {g h : Nat → Nat} (hi : i < n) : (dG n g h)[i]? = some ((Sum.inl ((g i : Nat) : Int) : Key), V.int ((h i : Nat) : Int)) := by
  unfold dG
  rw [List.getElem?_map, List.getElem?_range hi, Option.map_some]
theorem unlock {H H' : Hp} {d : Addr} {od : Obj} {u : HO} (hd : H d = some u) (s : Same (upd H d (.frz od u)) H') : Same H (upd H' d u) := fun b o e => by
  by_cases c : b = d
  · rw [c] at e ⊢
    rw [upd_same, ← hd, e]
  · rw [upd_ne c]
    exact s b o (by rw [upd_ne c]; exact e)
theorem lock_free {H : Hp} {d D : Addr} {od : Obj} {u : HO} (h : upd H d (.frz od u) D = none) : H D = none ∧ D ≠ d := by
  by_cases c : D = d
  · rw [c, upd_same] at h
    cases h
  · rw [upd_ne c] at h
    exact ⟨h, c⟩
theorem nexts_more (kss : List (List Int)) (i : Nat) : nextsTo kss (i + 1) = nextsTo kss i ++ ((nextP kss i).map fun q => (i, q)).toList := by
  unfold nextsTo
  rw [List.range_succ, List.filterMap_append]
  cases e : nextP kss i <;> simp [e]
theorem nexts_len (kss : List (List Int)) (i : Nat) : (nextsTo kss i).length ≤ i := by
  have := List.length_filterMap_le (fun p => (nextP kss p).map fun q => (p, q)) (List.range i)
  rw [List.length_range] at this
  exact this
section
variable {X : Cx}
/-- name = {..} on one line, the name a local -/
theorem ps_setDc {i : Nat} {y : Str} {py : Pos} {kx vx tg iter : Expr} {ifs : List Expr} {scope : Scope} {own : List (Str × Nat)} {pos spos : Pos} {wi : TI} {g : TG} {tt : TT} {tk tv : TE} (hc : X.calm = true) (hN : X.N.Nodup) (hy : X.N[i]? = some y) (hyl : X.env.scope.names.lookup y = some .local)
    (hsw : swapsWith (.DictComp kx vx [⟨tg, iter, ifs, 0⟩] scope pos) (some (.Name y py)) spos.line X.env = pure true) (hi : PI X tg iter wi) (ok : BlkOk X.N X.env.scope scope own)
    (hg : ∀ (s : Shared) (H : Hp) (C : Addr) (cl : List (Str × Addr)) (fp : List Addr), PG (X.blk s H scope (compEnvC scope cl C X.env) fp) tg g) (ht : ∀ (s : Shared) (H : Hp) (C : Addr) (cl : List (Str × Addr)) (fp : List Addr), PTs (X.blk s H scope (compEnvC scope cl C X.env) fp) ifs tt)
    (hk : ∀ (s : Shared) (H : Hp) (C : Addr) (cl : List (Str × Addr)) (fp : List Addr), PE (X.blk s H scope (compEnvC scope cl C X.env) fp) kx tk)
    (he : ∀ (s : Shared) (H : Hp) (C : Addr) (cl : List (Str × Addr)) (fp : List Addr), PE (X.blk s H scope (compEnvC scope cl C X.env) fp) vx tv) (hs : ∀ x, foldedSetIterable iter X.env x = pure x := by intro _; rfl) :
    PS X (.Assign [.Name y py] (.DictComp kx vx [⟨tg, iter, ifs, 0⟩] scope pos) spos) (tAsg (tDc wi g tt tk tv (own.map (·.2))) (gName i)) := by
  refine ⟨fun pins s σ H D I h => ?_⟩
  rw [exec_Assign_Name_used _ _ _ _ hsw]
  refine wpAny_bind (wpAny_standAt (wpAny_bind ?_))
  show wpAny _ X.A (do let _ ← comprehension (.DictComp kx vx [⟨tg, iter, ifs, 0⟩] scope pos) scope X.env (firstIterPos [⟨tg, iter, ifs, 0⟩] pos) newDict false (eval iter X.env) (some (assign (.Name y py) X.env))) _ _ s
  have h : tDc wi g tt tk tv (own.map (·.2)) σ H (fun x H1 => gName i x σ H1 D.nx) := h
  refine wpAny_bind (thn (dc_core (Qf := fun _ s' => SP X pins D .next s') hc hN I hi ok hg ht hk he hs h fun L C s' m H' I' q hn f => ?_) fun _ s' hq => wpAny_pure (wpAny_pure hq))
  show wpAny _ _ (assign (.Name y py) X.env (.ref L)) _ _ _
  refine wpAny_assign_Name (store_ok2 (v := V.ref L) I' hN hy (.inl hyl) rfl (fun s2 I2 ⟨a, sb, ha⟩ => ?_) (.inr hyl))
  obtain ⟨f0, f1, f2, f3, f4, f5⟩ := f
  have haC : C ≠ a := by
    rcases ha with z | z
    · rw [z]; exact f1
    · exact fun e => f4 y a z e.symm
  refine ⟨m, hn.sameBut sb haC, fun h3 sb3 => ?_⟩
  exact ⟨_, H', I2.turned (t' := s2.toks) (fun b o hb e => (sb3.2 b hb).trans e) f0 f1 f3 f4 f5, q⟩
theorem sw_trueD {kx vx : Expr} {gs : List Comprehension} {scope : Scope} {pos py : Pos} {y : Str} {l : Nat} {env : Env} (hk : env.scope.kind = .function) (hy : env.scope.names.lookup y = some .local) (hl : (py.line == pos.line) = true)
    (ha : (scope.names.any fun (n, k) => n == y && (k == .local || k == .cell)) = false) : swapsWith (.DictComp kx vx gs scope pos) (some (.Name y py)) l env = pure true := by
  have ky : env.kindOf y = some .local := hy
  have hb : env.blockKind = .function := by unfold Env.blockKind; rw [hk]; rfl
  unfold swapsWith
  simp only [hb, ky, ha, Expr.pos, hl]
  rfl
end
end GL

/-! couples sorted -/
namespace GL
open PySem PySem.Spec PyProof.Rows L2
/-- what stands in a couple at an address -/
def kH (H : Hp) (v : V) : Int × Int := match v with
  | .ref a => (match H a with | some (.tup [.int i, .int j]) => (i, j) | _ => (0, 0))
  | _ => (0, 0)
theorem kH_at {H : Hp} {a : Addr} {c : Nat × Nat} (h : H a = some (.tup (pairT c))) : kH H (.ref a) = (((c.1 : Nat) : Int), ((c.2 : Nat) : Int)) := by
  unfold kH
  dsimp only
  rw [h]
  rfl
theorem perm_back {α β : Type} {f : α → β} {l₁ m : List β} (h : l₁.Perm m) : ∀ {l₂ : List α}, m = l₂.map f → ∃ l : List α, l.Perm l₂ ∧ l₁ = l.map f := by
  induction h with
  | nil =>
    intro l₂ e
    exact ⟨l₂, List.Perm.refl _, by rw [← e]⟩
  | cons x h ih =>
    intro l₂ e
    cases l₂ with
    | nil => cases e
    | cons a l₂ =>
      rw [List.map_cons] at e
      obtain ⟨e1, e2⟩ := List.cons.inj e
      obtain ⟨l, p, e3⟩ := ih e2
      exact ⟨a :: l, p.cons a, by rw [List.map_cons, e1, e3]⟩
  | swap x y l =>
    intro l₂ e
    match l₂, e with
    | a :: b :: l₂, e =>
      simp only [List.map_cons, List.cons.injEq] at e
      obtain ⟨e1, e2, e3⟩ := e
      exact ⟨b :: a :: l₂, List.Perm.swap .., by simp only [List.map_cons, e1, e2, e3]⟩
  | trans h1 h2 ih1 ih2 =>
    intro l₂ e
    obtain ⟨l, p, e1⟩ := ih2 e
    obtain ⟨l', p', e2⟩ := ih1 e1
    exact ⟨l', p'.trans p, e2⟩
theorem Cpls.perm {H0 H : Hp} {a b : Addr} {ts us : List (Addr × Nat × Nat)} (R : Cpls H0 H a ts) (p : us.Perm ts) (top : H b = some (.lst (us.map fun t => V.ref t.1))) : Cpls H0 H b us :=
  ⟨top, fun t ht => R.row t (p.mem_iff.mp ht), fun t ht => R.new t (p.mem_iff.mp ht)⟩
theorem cpls_sorted {H0 H : Hp} {a : Addr} {ts us : List (Addr × Nat × Nat)} (R : Cpls H0 H a ts) (p : us.Perm ts) (nd : (ts.map (·.2)).Nodup) (s : SrtO.Srtd (ltP (kH H)) (us.map fun t => V.ref t.1)) : (us.map (·.2)).Pairwise lexN := by
  have nd' : (us.map (·.2)).Nodup := (p.map (·.2)).nodup_iff.mpr nd
  unfold SrtO.Srtd at s
  rw [List.pairwise_map] at s ⊢
  unfold List.Nodup at nd'
  rw [List.pairwise_map] at nd'
  refine List.Pairwise.imp_of_mem ?_ (List.Pairwise.and s nd')
  rintro x y hx hy ⟨h1, h2⟩
  have kx := kH_at (R.row x (p.mem_iff.mp hx))
  have ky := kH_at (R.row y (p.mem_iff.mp hy))
  unfold ltP at h1
  rw [kx, ky] at h1
  have h3 : ¬ (((y.2.1 : Nat) : Int) < ((x.2.1 : Nat) : Int) ∨ (((y.2.1 : Nat) : Int) = ((x.2.1 : Nat) : Int) ∧ ((y.2.2 : Nat) : Int) < ((x.2.2 : Nat) : Int))) := fun z => by
    rw [SrtO.lexB_iff.mpr z] at h1
    cases h1
  have h4 : ¬ (x.2.1 = y.2.1 ∧ x.2.2 = y.2.2) := fun z => h2 (Prod.ext z.1 z.2)
  unfold lexN
  omega
/-- sorted of a list of couples, each once -/
theorem sortCpl {K : PySem.W.Frag} {H0 H : Hp} {a : Addr} {ts : List (Addr × Nat × Nat)} {Q : VK} (R : Cpls H0 H a ts) (nd : (ts.map (·.2)).Nodup)
    (q : ∀ (us : List (Addr × Nat × Nat)) (p : Addr), us.Perm ts → (us.map (·.2)).Pairwise lexN → H p = none → Cpls H0 (upd H p (.lst (us.map fun t => V.ref t.1))) p us → Q (.ref p) (upd H p (.lst (us.map fun t => V.ref t.1)))) : rSortedPO K [.ref a] H Q := by
  refine ⟨a, _, kH H, rfl, SqL.of R.top, fun x hx => ?_, fun ys p s st hp => ?_⟩
  · obtain ⟨t, ht, rfl⟩ := List.mem_map.mp hx
    refine ⟨t.1, rfl, ?_⟩
    rw [kH_at (R.row t ht)]
    exact R.row t ht
  · obtain ⟨us, pm, rfl⟩ := perm_back (f := fun t : Addr × Nat × Nat => V.ref t.1) st.perm (l₂ := ts) rfl
    exact q us p pm (cpls_sorted R pm nd s) hp ((R.same (same_new hp)).perm pm upd_same)
end GL

namespace K58
open PySem PySem.Spec PyProof.Rows
open L2 hiding spCell
open GL
def topS (i : Nat) : Stmt := PySem.Challenge.pw_twinties_k58_whole_joined_leagues_by_fou.main.body.getD i (.Pass ⟨0, 0, 0, 0⟩)
structure Cs (mg : Str → Option Value) : Prop where
  people : ∃ t, mg "MOST_PEOPLE" = some (.int 40 t)
section
variable {P : Program} {w : World} {K : PySem.W.Frag} {mg : Str → Option Value} {base : Heap}
abbrev sHash : Stmt := topS 28
abbrev sRandom : Stmt := topS 29
abbrev sCell : Stmt := topS 30
abbrev sGen : Stmt := topS 31
theorem scHash : FnScope ["_law_seed", "_law_index", "_law_mixed"] ["_law_seed", "_law_index"] (defScope sHash) := ⟨rfl, rfl, rfl, by decide +kernel, rfl, by decide +kernel, by decide +kernel⟩
theorem ok_hash {f : Addr} {fd : FuncData} (F : Fun K "_law_hash" "_law_hash" sHash f fd) (T : Bi mg) : FnOk P w K mg base CX0 1 f fd ["_law_seed", "_law_index"] spHash := by
  refine F.ok scHash (fun vs H Q E h => ?_) (fun cdv A outer s H vs Q E hr h => ?_)
  · obtain ⟨b, c, rfl, _⟩ := h
    rfl
  · obtain ⟨b, c, rfl, hb0, hb1, hc0, hc1, q⟩ := h
    refine ⟨_, pss_cons (ps_set (i := 2) scHash.nd rfl (Or.inl rfl) (pe_op op_mod (pe_callTy call_int1 (by rfl) T.int PyProof.Rows.boot_int (pa_cons
        (pe_op op_add (pe_op op_add (pe_op op_add (pe_op op_mul (pv 0) pe_int) (pe_op op_mul (pe_op op_mul pe_int (pv 1)) (pv 1))) (pe_op op_mul pe_int (pv 1))) pe_int) pa_nil)) pe_int))
      (pss_cons (ps_set (i := 2) scHash.nd rfl (Or.inl rfl) (pe_op op_mod (pe_callTy call_int1 (by rfl) T.int PyProof.Rows.boot_int (pa_cons
        (pe_op op_add (pe_op op_add (pe_op op_mul (pv 2) (pv 2)) (pe_op op_mul pe_int (pv 1))) pe_int) pa_nil)) pe_int))
      (pss_one (ps_ret (pe_op op_mod (pe_callTy call_int1 (by rfl) T.int PyProof.Rows.boot_int (pa_cons (pe_op op_mul (pv 2) pe_int) pa_nil)) pe_int)))), ?_⟩
    refine ⟨_, rfl, _, _, rfl, rfl, .inl ⟨by omega, by omega⟩, _, rfl, _, _, rfl, rfl, .inl ⟨by omega, by omega⟩, _, rfl, _, _, rfl, rfl, .inr ⟨by omega, by omega⟩, _, _, rfl, rfl, _, rfl, _, _, rfl, rfl, .inl ⟨by omega, by omega⟩, _, _, rfl, rfl, _, _, rfl, rfl,
      .inl ⟨_, rfl, _, _, rfl, rfl, (by show (0 : Int) < 2147483629; decide), ?_⟩⟩
    generalize hm : (b * 1140671 + 27644437 * c * c + 131 * c + 19) % 2147483629 = m
    have m0 : 0 ≤ m := by rw [← hm]; exact Int.emod_nonneg _ (by decide)
    have m1 : m < 2147483629 := by rw [← hm]; exact Int.emod_lt_of_pos _ (by decide)
    refine ⟨_, rfl, _, rfl, _, _, rfl, rfl, .inl ⟨by omega, by omega⟩, _, rfl, _, _, rfl, rfl, .inl ⟨by omega, by omega⟩, _, _, rfl, rfl, _, _, rfl, rfl,
      .inl ⟨_, rfl, _, _, rfl, rfl, (by show (0 : Int) < 2147483587; decide), ?_⟩⟩
    generalize hn : (m * m + 62089 * c + 32416187) % 2147483587 = n
    have n0 : 0 ≤ n := by rw [← hn]; exact Int.emod_nonneg _ (by decide)
    have n1 : n < 2147483587 := by rw [← hn]; exact Int.emod_lt_of_pos _ (by decide)
    refine ⟨_, rfl, _, _, rfl, rfl, .inl ⟨by omega, by omega⟩, .inl ⟨_, rfl, _, _, rfl, rfl, (by show (0 : Int) < 2147483647; decide), ?_⟩⟩
    exact q _ (Int.emod_nonneg _ (by decide)) (Int.emod_lt_of_pos _ (by decide))
theorem scRandom : FnScope ["_law_generator_here", "_law_bound", "_law_drawn", "_law_turn"] ["_law_generator_here", "_law_bound"] (defScope sRandom) := ⟨rfl, rfl, rfl, by decide +kernel, rfl, by decide +kernel, by decide +kernel⟩
theorem ok_random {f : Addr} {fd : FuncData} (F : Fun K "_law_random" "_law_random" sRandom f fd) (T : Bi mg) (UH : Use P w K mg base "_law_hash" ["_law_seed", "_law_index"] spHash 1) : FnOk P w K mg base CX0 2 f fd ["_law_generator_here", "_law_bound"] spRandom := by
  refine F.ok scRandom (fun vs H Q E h => ?_) (fun cdv A outer s H vs Q E hr h => ?_)
  · obtain ⟨g, m, n, rfl, _⟩ := h
    rfl
  · obtain ⟨g, m, n, rfl, m0, m1, G, q⟩ := h
    refine ⟨_, pss_cons (ps_if (pt_cmpR op_gt (pe_ix ix_list (pv 0) pe_int (fun _ _ => rfl)) pe_int (nomark _))
        (pss_cons (ps_set (i := 2) scRandom.nd rfl (Or.inl rfl) (pe_op op_mod (pe_callTy call_int1 (by rfl) T.int PyProof.Rows.boot_int (pa_cons (pe_ix ix_list (pv 0) pe_int (fun _ _ => rfl)) pa_nil)) (pv 1)))
        (pss_cons (ps_asg (pe_op op_fdivW (pe_ix ix_list (pv 0) pe_int (fun _ _ => rfl)) (pv 1)) (pg_sub (pv 0) pe_int set_list))
        (pss_one (ps_ret (pv 2))))) pss_nil)
      (pss_cons (ps_set (i := 2) scRandom.nd rfl (Or.inl rfl) pe_int)
      (pss_cons (ps_for PassesOwn.never rfl (pi_range1 (by rfl) T.range (pa_cons (pe_op op_add pe_int (pe_op op_fdiv (pe_bits (pv 1)) pe_int)) pa_nil)) (pg_name (i := 3) scRandom.nd rfl (Or.inl rfl))
        (pss_cons (ps_asg (pe_op op_add (pe_ix ix_list (pv 0) pe_int (fun _ _ => rfl)) pe_int) (pg_sub (pv 0) pe_int set_list))
        (pss_one (ps_set (i := 2) scRandom.nd rfl (Or.inl rfl) (pe_op op_add (pe_op op_mul (pv 2) pe_int)
          (pe_use UH hr (by rfl) (pa_cons (pe_ix ix_list (pv 0) pe_int (fun _ _ => rfl)) (pa_cons (pe_ix ix_list (pv 0) pe_int (fun _ _ => rfl)) pa_nil))))))))
      (pss_one (ps_ret (pe_op op_mod (pe_callTy call_int1 (by rfl) T.int PyProof.Rows.boot_int (pa_cons (pv 2) pa_nil)) (pv 1)))))), ?_⟩
    obtain ⟨a, b, c, hg, b0, b1, c0, c1⟩ := G
    refine ⟨_, rfl, g, _, _, _, rfl, rfl, SqL.of hg, at_of (j := 0) rfl rfl, _, _, rfl, rfl, _, rfl, ?_⟩
    by_cases ha : 0 < a
    · refine ite2 (fun _ => ?_) (fun z => absurd (decide_eq_true ha) z)
      refine ⟨_, rfl, g, _, _, _, rfl, rfl, SqL.of hg, at_of (j := 0) rfl rfl, .inl ⟨_, rfl, _, rfl, _, _, rfl, rfl, m0, ?_⟩⟩
      refine ⟨_, rfl, g, _, _, _, rfl, rfl, SqL.of hg, at_of (j := 0) rfl rfl, _, rfl, _, _, rfl, rfl, wide_div (b := 120) m0 (by omega) (by decide) (by decide), _, rfl, g, _, _, 0, rfl, rfl, hg, rfl, ?_⟩
      refine ⟨_, rfl, q _ _ (Int.emod_nonneg _ (by omega)) (Int.emod_lt_of_pos _ m0) ⟨_, b, c, upd_same, b0, b1, c0, by omega⟩ But.put⟩
    · refine ite2 (fun z => absurd (of_decide_eq_true z) ha) (fun _ => ?_)
      obtain ⟨u1, u0⟩ := bits_le m0 m1
      generalize hu : (Builtin.Int.intBits m : Int) / 30 = u at u0 u1
      refine ⟨_, rfl, _, rfl, _, _, rfl, rfl, ⟨by decide, by decide⟩, _, _, rfl, rfl, 1 + u, by rw [hu], by omega, by omega,
        for_range (lo := 0) (n := (1 + u).toNat) (fun i σ H' => ∃ (d : Int) (t : Option V) (c' : Int), σ = [some (.ref g), some (.int m), some (.int d), t] ∧ But g H H' ∧ H' g = some (.lst [.int a, .int b, .int c']) ∧ c ≤ c' ∧ c' ≤ c + i)
        ⟨0, none, c, rfl, But.refl, hg, by omega, by omega⟩ ?_ ?_⟩
      · rintro i σ H' hi ⟨d, t, c', rfl, bt, hg', c2, c3⟩
        refine ⟨_, rfl, g, _, _, _, rfl, rfl, SqL.of hg', at_of (j := 2) rfl rfl, _, _, rfl, rfl, _, rfl, g, _, _, 2, rfl, rfl, hg', rfl, ?_⟩
        refine ⟨_, rfl, _, _, rfl, rfl, .inr ⟨by decide, by decide⟩, _, rfl, g, _, _, _, rfl, rfl, SqL.of upd_same, at_of (j := 1) rfl rfl, _, rfl, g, _, _, _, rfl, rfl, SqL.of upd_same, at_of (j := 2) rfl rfl,
          b, c' + 1, rfl, b0, b1, by omega, by omega, fun r r0 r1 => ⟨_, _, rfl, rfl, ?_⟩⟩
        exact ⟨_, _, c' + 1, rfl, bt.trans But.put, upd_same, by omega, by omega⟩
      · rintro σ H' ⟨d, t, c', rfl, bt, hg', c2, c3⟩
        refine ⟨_, rfl, .inl ⟨_, rfl, _, rfl, _, _, rfl, rfl, m0, ?_⟩⟩
        exact q _ _ (Int.emod_nonneg _ (by omega)) (Int.emod_lt_of_pos _ m0) ⟨a, b, c', hg', b0, b1, by omega, by omega⟩ bt
theorem scCell : FnScope ["_law_script", "_law_index"] ["_law_script", "_law_index"] (defScope sCell) := ⟨rfl, rfl, rfl, by decide +kernel, rfl, by decide +kernel, by decide +kernel⟩
theorem ok_cell {f : Addr} {fd : FuncData} (F : Fun K "_law_cell" "_law_cell" sCell f fd) (T : Bi mg) : FnOk P w K mg base CX0 1 f fd ["_law_script", "_law_index"] (spCell K) := by
  refine F.ok scCell (fun vs H Q E h => ?_) (fun cdv A outer s H vs Q E hr h => ?_)
  · obtain ⟨a, ns, i, rfl, _⟩ := h
    rfl
  · obtain ⟨a, ns, i, rfl, hS, q⟩ := h
    refine ⟨_, pss_cons (ps_if (pt_cmpR op_lt (pv 1) (pe_callB call_len_seq (by rfl) T.len PySem.boot_len (pa_cons (pv 0) pa_nil)) (nomark _)) (pss_one (ps_ret (pe_ix ix_list (pv 0) (pv 1) (fun _ _ => rfl)))) pss_nil)
      (pss_one (ps_ret (pe_op op_mod (pe_callB (cr_sum rfl) (by rfl) T.sum (by decide +kernel) (pa_cons (pe_slice sl_list (pv 0) po_none (po_some pe_int)) pa_nil)) pe_int))), ?_⟩
    refine ⟨_, rfl, _, rfl, a, _, rfl, .inl hS, _, _, rfl, rfl, _, rfl, ite2 (fun c => ?_) (fun c => ?_)⟩
    · have hl := of_decide_eq_true c
      rw [List.length_map] at hl
      have hi : i < ns.length := by omega
      exact ⟨_, rfl, _, rfl, a, _, _, _, rfl, rfl, hS, at_of (j := i) rfl (by rw [List.getElem?_map, List.getElem?_eq_getElem hi]; rfl), q _ _ (Same.refl _)⟩
    · refine ⟨_, rfl, 1, rfl, a, _, rfl, hS, fun c nc => ?_⟩
      obtain ⟨l, el, _⟩ := cut_ints ns none (some 1)
      refine ⟨c, l, rfl, by rw [← el]; exact SqL.of upd_same, _, _, rfl, rfl, (by show (0 : Int) < 1000003; decide), q _ _ (same_new nc)⟩
theorem scGen : FnScope ["_law_script", "_law_index", "_law_seed"] ["_law_script", "_law_index"] (defScope sGen) := ⟨rfl, rfl, rfl, by decide +kernel, rfl, by decide +kernel, by decide +kernel⟩
theorem ok_gen {f : Addr} {fd : FuncData} (F : Fun K "_law_generator" "_law_generator" sGen f fd) (T : Bi mg) (U : Use P w K mg base "_law_cell" ["_law_script", "_law_index"] (spCell K) 1) : FnOk P w K mg base CX0 2 f fd ["_law_script", "_law_index"] (spGen K) := by
  refine F.ok scGen (fun vs H Q E h => ?_) (fun cdv A outer s H vs Q E hr h => ?_)
  · obtain ⟨a, ns, i, rfl, _⟩ := h
    rfl
  · obtain ⟨a, ns, i, rfl, hi, hS, q⟩ := h
    refine ⟨_, pss_cons (ps_set (i := 2) scGen.nd rfl (Or.inl rfl) (pe_use U hr (by rfl) (pa_cons (pv 0) (pa_cons (pv 1) pa_nil))))
      (pss_one (ps_ret (pe_lst (pa_cons (pe_op op_mod (pe_callTy call_int1 (by rfl) T.int PyProof.Rows.boot_int (pa_cons (pe_callB (call_max2 rfl) (by rfl) T.max (by decide +kernel) (pa_cons (pe_op op_sub (pv 2) (pe_op op_pow pe_int pe_int)) (pa_cons pe_int pa_nil))) pa_nil)) (pe_op op_powW (pe_op op_pow pe_int pe_int) pe_int))
        (pa_cons (pe_op op_mod (pe_callTy call_int1 (by rfl) T.int PyProof.Rows.boot_int (pa_cons (pv 2) pa_nil)) pe_int) (pa_cons (pe_op op_mul pe_int (pv 1)) pa_nil)))))), ?_⟩
    refine ⟨_, rfl, _, rfl, a, ns, i, rfl, hS, fun r H1 s1 => ?_⟩
    refine ⟨_, rfl, _, _, rfl, rfl, ⟨by decide, by decide, by decide⟩, _, _, rfl, rfl, _, _, rfl, .inl ⟨_, rfl, _, _, rfl, rfl, ⟨by decide, by decide, by decide⟩, _, _, rfl, rfl, pow60, _, _, rfl, rfl, pow600, ?_⟩⟩
    refine ⟨_, rfl, .inl ⟨_, rfl, _, _, rfl, rfl, (by show (0 : Int) < 2147483647; decide), _, rfl, _, _, rfl, rfl, .inl ⟨by decide, by decide⟩, (by show 3 ≤ sizeLine; decide), fun g hg => ?_⟩⟩
    exact q g _ (s1.trans (same_new hg)) (s1.free hg) ⟨_, _, _, upd_same, Int.emod_nonneg _ (by decide), Int.emod_lt_of_pos _ (by decide), by omega, by omega⟩

abbrev sWhole : Stmt := topS 7
abbrev sBelow : Stmt := topS 8
abbrev sRow : Stmt := topS 9
abbrev sCompOf : Stmt := topS 10
theorem scWhole : FnScope ["value"] ["value"] (defScope sWhole) := ⟨rfl, rfl, rfl, by decide +kernel, rfl, by decide +kernel, by decide +kernel⟩
theorem ok_whole {f : Addr} {fd : FuncData} (F : Fun K "is_whole" "is_whole" sWhole f fd) (T : Bi mg) : FnOk P w K mg base CX0 1 f fd ["value"] (spWhole K) := by
  refine F.ok scWhole (fun vs H Q E h => ?_) (fun cdv A outer s H vs Q E hr h => ?_)
  · obtain ⟨x, d, rfl, _⟩ := h
    rfl
  · obtain ⟨x, d, rfl, hd, q⟩ := h
    refine ⟨_, pss_one (ps_ret (pe_and (pe_callB call_isi (by rfl) T.isinstance (by decide +kernel) (pa_cons (pv 0) (pa_cons (pe_bltn (v := .ty "int") (by rfl) T.int PyProof.Rows.boot_int rfl) pa_nil)))
      (pe_one (pe_not (pe_callB call_isi (by rfl) T.isinstance (by decide +kernel) (pa_cons (pv 0) (pa_cons (pe_bltn (v := .ty "bool") (by rfl) T.bool (by decide +kernel) rfl) pa_nil))))))), ?_⟩
    refine ⟨_, rfl, _, _, _, _, _, rfl, .ty "int", hd.ty, kit_int d, _, rfl, ?_⟩
    cases e : isInt d with
    | false =>
      refine iteF ?_
      have z : whole d = false := by unfold whole; rw [e]; rfl
      rw [← z]
      exact q
    | true =>
      refine iteT ⟨_, rfl, _, _, _, _, _, rfl, .ty "bool", hd.ty, kit_bool d, _, rfl, ?_⟩
      have z : whole d = !isBool d := by unfold whole; rw [e]; rfl
      rw [← z]
      exact q
theorem scBelow : FnScope ["value", "bound"] ["value", "bound"] (defScope sBelow) := ⟨rfl, rfl, rfl, by decide +kernel, rfl, by decide +kernel, by decide +kernel⟩
theorem ok_below {f : Addr} {fd : FuncData} (F : Fun K "is_below" "is_below" sBelow f fd) (U : Use P w K mg base "is_whole" ["value"] (spWhole K) 1) : FnOk P w K mg base CX0 2 f fd ["value", "bound"] (spBelow K) := by
  refine F.ok scBelow (fun vs H Q E h => ?_) (fun cdv A outer s H vs Q E hr h => ?_)
  · obtain ⟨x, d, k, rfl, _⟩ := h
    rfl
  · obtain ⟨x, d, k, rfl, hd, q⟩ := h
    refine ⟨_, pss_one (ps_ret (pe_and (pe_use U hr (by rfl) (pa_cons (pv 0) pa_nil)) (pe_one (pe_chain op_le op_lt pe_int (pv 0) (pv 1))))), ?_⟩
    refine ⟨_, rfl, _, d, rfl, hd, _, rfl, ?_⟩
    rcases whole_cases d with ⟨i, rfl, e⟩ | ⟨e, z⟩
    · rw [e]
      cases hd
      refine iteT ⟨_, rfl, _, _, rfl, rfl, _, rfl, ?_⟩
      cases c : decide ((0 : Int) ≤ i) with
      | true =>
        refine iteT ⟨_, rfl, _, _, rfl, rfl, ?_⟩
        have z : below k (.int i) = decide (i < k) := by
          show (decide (0 ≤ i) && decide (i < k)) = decide (i < k)
          rw [c, Bool.true_and]
        rw [z] at q
        exact q
      | false =>
        refine iteF ?_
        have z : below k (.int i) = false := by
          show (decide (0 ≤ i) && decide (i < k)) = false
          rw [c, Bool.false_and]
        rw [z] at q
        exact q
    · rw [e]
      refine iteF ?_
      rw [← z k]
      exact q
theorem scRow : FnScope ["kinds", "many", "value", "kind"] ["kinds", "many", "value"] (defScope sRow) := ⟨rfl, rfl, rfl, by decide +kernel, rfl, by decide +kernel, by decide +kernel⟩
theorem ok_row {f : Addr} {fd : FuncData} (F : Fun K "is_row" "is_row" sRow f fd) (T : Bi mg) (U : Use P w K mg base "is_below" ["value", "bound"] (spBelow K) 2) : FnOk P w K mg base CX0 3 f fd ["kinds", "many", "value"] (spRow K) := by
  refine F.ok scRow (fun vs H Q E h => ?_) (fun cdv A outer s H vs Q E hr h => ?_)
  · obtain ⟨x, d, k, n, rfl, _⟩ := h
    rfl
  · obtain ⟨x, d, k, n, rfl, hn, hd, q⟩ := h
    refine ⟨_, pss_one (ps_ret (pe_and (pe_callB call_isi (by rfl) T.isinstance (by decide +kernel) (pa_cons (pv 2) (pa_cons (pe_bltn (v := .ty "list") (by rfl) T.list PyProof.Rows.boot_list rfl) pa_nil)))
      (pe_and (pe_cmpR op_eq (pe_callB call_len_seq (by rfl) T.len PySem.boot_len (pa_cons (pv 2) pa_nil)) (pv 1) (nomark _))
      (pe_one (pe_callB (cr_all rfl) (by rfl) T.all (by decide +kernel) (pa_cons (pe_lc (own := [("kind", 3)]) (g := gName 3) (tt := tYes) rfl scRow.nd (pi_list (pv 2)) (blkOk_by (N := ["kinds", "many", "value", "kind"]) (sc := defScope sRow) (by decide +kernel))
        (fun _ _ _ _ _ => pg_name (i := 3) scRow.nd rfl (Or.inl rfl)) (fun _ _ _ _ _ => pts_nil) (fun _ _ _ _ _ => pe_use U hr (by rfl) (pa_cons (pv 3) (pa_cons (pv 0) pa_nil)))) pa_nil)))))), ?_⟩
    refine ⟨_, rfl, _, _, _, _, _, rfl, .ty "list", hd.ty, kit_list d, _, rfl, ?_⟩
    by_cases e : ∃ ds, d = .list ds
    · obtain ⟨ds, rfl⟩ := e
      cases hd with
      | @lst a xs _ ha hs =>
        have hl := hs.length
        refine iteT ⟨_, rfl, a, xs, rfl, .inl (SqL.of ha), _, rfl, rfl, _, rfl, ?_⟩
        rw [hl]
        by_cases c : (ds.length : Int) = n
        · rw [decide_eq_true (congrArg V.int c)]
          refine iteT ⟨_, rfl, a, rfl, ⟨_, SqL.of ha⟩, fun D hD => ?_⟩
          refine lc_list (K := K) (a := a) (xs := xs) (fun i H' => Same H H' ∧ H' D = some (.lst (((ds.take i).map (below k)).map V.bl))) ⟨same_new hD, upd_same⟩ (fun i H' _ z => (z.1).seq (SqL.of ha)) ?_ ?_
          · rintro i y H' hi ⟨s1, hD'⟩
            obtain ⟨dy, e1, d1⟩ := hs.get hi
            refine ⟨rfl, yes_of ?_⟩
            refine ⟨_, rfl, _, rfl, y, dy, k, rfl, Dt.same s1 dy _ d1, _, hD', ?_, ?_, ?_⟩
            · rw [List.length_map, List.length_map, List.length_take]
              exact small1000 (by omega)
            · exact fun b o z => by rw [upd_ne (ne_of_none z hD)]; exact s1 b o z
            · rw [upd_same, take_more (below k) e1, List.map_append]
              rfl
          · rintro H' ⟨s1, hD'⟩
            rw [hl, List.take_length] at hD'
            refine ⟨D, ds.map (below k), rfl, SqL.of hD', ?_⟩
            have z : rowOk k n (.list ds) = (ds.map (below k)).all id := by
              show (decide ((ds.length : Int) = n) && ds.all (below k)) = _
              rw [decide_eq_true c, Bool.true_and, List.all_map]
              rfl
            rw [← z]
            exact q _ s1
        · rw [decide_eq_false (fun z => c (V.int.inj z))]
          refine iteF ?_
          have z : rowOk k n (.list ds) = false := by
            show (decide ((ds.length : Int) = n) && ds.all (below k)) = false
            rw [decide_eq_false c]
            rfl
          rw [← z]
          exact q _ (Same.refl _)
    · have z : isList d = false ∧ rowOk k n d = false := by
        cases d with
        | list ds => exact (e ⟨ds, rfl⟩).elim
        | _ => exact ⟨rfl, rfl⟩
      rw [z.1]
      refine iteF ?_
      rw [← z.2]
      exact q _ (Same.refl _)
theorem scCompOf : FnScope ["kinds", "value", "person", "row"] ["kinds", "value"] (defScope sCompOf) := ⟨rfl, rfl, rfl, by decide +kernel, rfl, by decide +kernel, by decide +kernel⟩
theorem ok_compOf {f : Addr} {fd : FuncData} (F : Fun K "is_company_of" "is_company_of" sCompOf f fd) (T : Bi mg) (C : Cs mg) (U : Use P w K mg base "is_row" ["kinds", "many", "value"] (spRow K) 3) : FnOk P w K mg base CX0 4 f fd ["kinds", "value"] (spCompOf K) := by
  refine F.ok scCompOf (fun vs H Q E h => ?_) (fun cdv A outer s H vs Q E hr h => ?_)
  · obtain ⟨x, d, k, rfl, _⟩ := h
    rfl
  · obtain ⟨x, d, k, rfl, hd, q⟩ := h
    obtain ⟨t3, c3⟩ := C.people
    refine ⟨_, pss_cons (ps_if (PW.pt (pw_or (pt_not (pt_val (pe_callB call_isi (by rfl) T.isinstance (by decide +kernel) (pa_cons (pv 1) (pa_cons (pe_bltn (v := .ty "list") (by rfl) T.list PyProof.Rows.boot_list rfl) pa_nil)))))
        (pw_or1 (pt_not (pt_chain op_le op_le pe_int (pe_callB call_len_seq (by rfl) T.len PySem.boot_len (pa_cons (pv 1) pa_nil)) (pe_glob (v := .int 40) rfl c3 ⟨_, rfl⟩)))))) (pss_one (ps_ret pe_bl)) pss_nil)
      (pss_one (ps_ret (pe_callB (cr_all rfl) (by rfl) T.all (by decide +kernel) (pa_cons (pe_lc (own := [("person", 2), ("row", 3)]) (g := gTup K 2 (gCons (gName 2) (gCons (gName 3) gNil))) (tt := tYes) rfl scCompOf.nd (pi_enum (by rfl) T.enumerate (pa_cons (pv 1) pa_nil))
        (blkOk_by (N := ["kinds", "value", "person", "row"]) (sc := defScope sCompOf) (by decide +kernel)) (fun _ _ _ _ _ => pg_tup rfl (pgs_cons (pg_name (i := 2) scCompOf.nd rfl (Or.inl rfl)) (pgs_cons (pg_name (i := 3) scCompOf.nd rfl (Or.inl rfl)) pgs_nil)))
        (fun _ _ _ _ _ => pts_nil) (fun _ _ _ _ _ => pe_use U hr (by rfl) (pa_cons (pv 0) (pa_cons (pv 2) (pa_cons (pv 3) pa_nil))))) pa_nil)))), ?_⟩
    refine ⟨_, rfl, _, _, _, _, _, rfl, .ty "list", hd.ty, kit_list d, _, rfl, ?_⟩
    by_cases e : ∃ ds, d = .list ds
    · obtain ⟨ds, rfl⟩ := e
      cases hd with
      | @lst a xs _ ha hs =>
        have hl := hs.length
        refine iteF ⟨_, rfl, a, xs, rfl, .inl (SqL.of ha), _, _, rfl, rfl, _, rfl, ?_⟩
        rw [hl]
        by_cases c1 : (1 : Int) ≤ (ds.length : Int)
        · rw [decide_eq_true c1]
          refine iteT ⟨_, _, rfl, rfl, _, rfl, ?_⟩
          by_cases c2 : (ds.length : Int) ≤ 40
          · rw [decide_eq_true c2]
            refine iteF ⟨_, rfl, a, xs, rfl, SqL.of ha, fun D hD => ?_⟩
            refine lc_it (walk_enum (K := K) (a := a) (xs := xs)) (fun i H' => Same H H' ∧ H' D = some (.lst (((List.range i).map fun j => rowOk k ((0 + j : Nat) : Int) (ds.getD j .none)).map V.bl))) ⟨same_new hD, upd_same⟩ (fun i H' _ z => (z.1).seq (SqL.of ha)) ?_ ?_
            · rintro i y H' H'' hi ⟨s1, hD'⟩ ⟨T, x1, x2, rfl, nT, rfl, e1, e2⟩
              have e1' : x1 = .int (i : Nat) := (Option.some.inj e1).symm
              subst e1'
              obtain ⟨dy, f1, f2⟩ := hs.get e2
              have s2 := s1.trans (same_new (o := .tup [.int (i : Nat), x2]) nT)
              have ne : D ≠ T := ne_of_none hD' nT
              refine ⟨T, [.int (i : Nat), x2], rfl, SqT.of upd_same, rfl, _, _, rfl, _, _, rfl, rfl, rfl, yes_of ?_⟩
              refine ⟨_, rfl, _, rfl, _, rfl, x2, dy, k, i, rfl, by omega, Dt.same s2 dy _ f2, fun H3 s3 => ⟨_, s3 D _ (by rw [upd_ne ne]; exact hD'), ?_, ?_, ?_⟩⟩
              · rw [List.length_map, List.length_map, List.length_range]
                exact small1000 (by omega)
              · exact fun b o z => by rw [upd_ne (ne_of_none z hD)]; exact s3 b o (s2 b o z)
              · rw [upd_same, all_range_more]
                have ez : (0 + i : Nat) = i := Nat.zero_add i
                have eg : ds.getD i .none = dy := by rw [List.getD_eq_getElem?_getD, f1]; rfl
                rw [ez, eg]
            · rintro H' ⟨s1, hD'⟩
              refine ⟨D, _, rfl, SqL.of hD', ?_⟩
              rw [hl, ← rowsOk_all]
              have z : compOk k (.list ds) = rowsOk k 0 ds := by
                show ((decide (1 ≤ ds.length) && decide (ds.length ≤ 40)) && rowsOk k 0 ds) = _
                rw [decide_eq_true (by omega : 1 ≤ ds.length), decide_eq_true (by omega : ds.length ≤ 40)]
                rfl
              rw [← z]
              exact q _ s1
          · rw [decide_eq_false c2]
            refine iteT ?_
            have z : compOk k (.list ds) = false := by
              show ((decide (1 ≤ ds.length) && decide (ds.length ≤ 40)) && rowsOk k 0 ds) = _
              rw [decide_eq_false (by omega : ¬ ds.length ≤ 40), Bool.and_false, Bool.false_and]
            have q' := q _ (Same.refl _)
            rw [z] at q'
            exact q'
        · rw [decide_eq_false c1]
          refine iteF ⟨_, rfl, iteT ?_⟩
          have z : compOk k (.list ds) = false := by
            show ((decide (1 ≤ ds.length) && decide (ds.length ≤ 40)) && rowsOk k 0 ds) = _
            rw [decide_eq_false (by omega : ¬ 1 ≤ ds.length), Bool.false_and, Bool.false_and]
          have q' := q _ (Same.refl _)
          rw [z] at q'
          exact q'
    · have z : isList d = false ∧ compOk k d = false := by
        cases d with
        | list ds => exact (e ⟨ds, rfl⟩).elim
        | _ => exact ⟨rfl, rfl⟩
      rw [z.1]
      refine iteT ?_
      have q' := q _ (Same.refl _)
      rw [z.2] at q'
      exact q'

end
end K58

namespace K58
open PySem PySem.Spec PyProof.Rows
open L2 hiding spCell
open GL
def spIsL (K : PySem.W.Frag) : Sp := fun vs H Q _ => ∃ x d, vs = [x] ∧ Dt K H x d ∧ ∀ H', Same H H' → Q (.bl (compOk 2 d)) H'
def spChkL (K : PySem.W.Frag) : Sp := fun vs H Q _ => ∃ x d, vs = [x] ∧ Dt K H x d ∧ compOk 2 d = true ∧ ∀ H', Same H H' → Q .non H'
def spBeaten : Sp := fun vs H Q _ => ∃ (c : Addr) (rs : List Addr) (kss : List (List Int)), vs = [.ref c] ∧ Tab H c rs kss ∧ Fine 2 kss ∧ kss.length ≤ 40 ∧ ∀ (d : Addr) (H' : Hp), Same H H' → H d = none → H' d = some (.dK (dD kss.length (beatN kss))) → Q (.ref d) H'
section
variable {P : Program} {w : World} {K : PySem.W.Frag} {mg : Str → Option Value} {base : Heap}
abbrev sIsL : Stmt := topS 23
abbrev nIsL : List Str := ["value"]
theorem scIsL : FnScope nIsL ["value"] (defScope sIsL) := ⟨rfl, rfl, rfl, by decide +kernel, rfl, by decide +kernel, by decide +kernel⟩
theorem ok_isL {f : Addr} {fd : FuncData} (F : Fun K "is_league" "is_league" sIsL f fd) (T : Bi mg) (Uiscompanyof : Use P w K mg base "is_company_of" ["kinds", "value"] (spCompOf K) 4) : FnOk P w K mg base CX0 5 f fd ["value"] (spIsL K) := by
  refine F.ok scIsL (fun vs H Q E h => ?_) (fun cdv A outer s H vs Q E hr h => ?_)
  · obtain ⟨x, d, rfl, _⟩ := h
    rfl
  · obtain ⟨x, d, rfl, dx, q⟩ := h
    refine ⟨_, (pss_one (ps_ret (pe_use Uiscompanyof hr (by rfl) (pa_cons pe_int (pa_cons (pv 0) pa_nil))))), ?_⟩
    exact ⟨_, rfl, x, d, 2, rfl, dx, q⟩
abbrev sChkL : Stmt := topS 14
abbrev nChkL : List Str := ["league"]
theorem scChkL : FnScope nChkL ["league"] (defScope sChkL) := ⟨rfl, rfl, rfl, by decide +kernel, rfl, by decide +kernel, by decide +kernel⟩
theorem ok_chkL {f : Addr} {fd : FuncData} (F : Fun K "check_league" "check_league" sChkL f fd) (T : Bi mg) (Uisleague : Use P w K mg base "is_league" ["value"] (spIsL K) 5) : FnOk P w K mg base CX0 6 f fd ["league"] (spChkL K) := by
  refine F.ok scChkL (fun vs H Q E h => ?_) (fun cdv A outer s H vs Q E hr h => ?_)
  · obtain ⟨x, d, rfl, _⟩ := h
    rfl
  · obtain ⟨x, d, rfl, dx, ok, q⟩ := h
    refine ⟨_, (pss_one (ps_if (pt_not (pt_val (pe_use Uisleague hr (by rfl) (pa_cons (pv 0) pa_nil))))
        (pss_one ps_never) pss_nil)), ?_⟩
    refine ⟨_, rfl, x, d, rfl, dx, fun H1 s1 => ?_⟩
    rw [ok]
    exact ⟨_, rfl, iteF (q _ s1)⟩
abbrev sBeaten : Stmt := topS 16
abbrev nBeaten : List Str := ["league", "beaten", "person", "row", "before", "won"]
theorem scBeaten : FnScope nBeaten ["league"] (defScope sBeaten) := ⟨rfl, rfl, rfl, by decide +kernel, rfl, by decide +kernel, by decide +kernel⟩
theorem ok_beaten {f : Addr} {fd : FuncData} (F : Fun K "beaten_in" "beaten_in" sBeaten f fd) (T : Bi mg) : FnOk P w K mg base CX0 1 f fd ["league"] spBeaten := by
  refine F.ok scBeaten (fun vs H Q E h => ?_) (fun cdv A outer s H vs Q E hr h => ?_)
  · obtain ⟨c, rs, kss, rfl, _⟩ := h
    rfl
  · obtain ⟨c, rs, kss, rfl, t, fine, n40, q⟩ := h
    refine ⟨_, (pss_cons (ps_setDc (i := 1) (own := [("person", 2)]) (g := (gName 2)) rfl scBeaten.nd rfl rfl (sw_trueD rfl rfl rfl (by decide +kernel)) (pi_range1 (by rfl) T.range (pa_cons (pe_callB call_len_seq (by rfl) T.len PySem.boot_len (pa_cons (pv 0) pa_nil)) pa_nil)) (blkOk_by (N := nBeaten) (sc := (defScope sBeaten)) (by decide +kernel)) (fun _ _ _ _ _ => (pg_name (i := 2) scBeaten.nd rfl (Or.inl rfl))) (fun _ _ _ _ _ => by exact pts_nil) (fun _ _ _ _ _ => by exact (pv 2)) (fun _ _ _ _ _ => by exact pe_int))
      (pss_cons (ps_for PassesOwn.never rfl (pi_enum (by rfl) T.enumerate (pa_cons (pv 0) pa_nil)) (pg_tup rfl (pgs_cons (pg_name (i := 2) scBeaten.nd rfl (Or.inl rfl)) (pgs_cons (pg_name (i := 3) scBeaten.nd rfl (Or.inl rfl)) pgs_nil)))
        (pss_one (ps_for PassesOwn.never rfl (pi_enum (by rfl) T.enumerate (pa_cons (pv 3) pa_nil)) (pg_tup rfl (pgs_cons (pg_name (i := 4) scBeaten.nd rfl (Or.inl rfl)) (pgs_cons (pg_name (i := 5) scBeaten.nd rfl (Or.inl rfl)) pgs_nil)))
          (pss_one (ps_if (pt_cmpR op_eq (pv 5) pe_int (nomark _))
            (pss_one (ps_daug (hu_of hr) (pv 1) (pv 2) (pe_op opN_shl pe_int (pv 4)) iopN_or (fun _ _ _ => rfl))) (pss_one (ps_daug (hu_of hr) (pv 1) (pv 4) (pe_op opN_shl pe_int (pv 2)) iopN_or (fun _ _ _ => rfl))))))))
      (pss_one (ps_ret (pv 1))))), ?_⟩
    have lr : (rs.map V.ref).length = kss.length := by rw [List.length_map, t.len]
    refine ⟨_, rfl, c, _, rfl, .inl (SqL.of t.top), _, rfl, by omega, by omega, fun D hD => ?_⟩
    rw [lr]
    refine dc_it (walk_nat (n := (kss.length : Int).toNat)) (fun i H' => Same H H' ∧ H' D = some (.dK (dD i fun _ => 0))) ⟨same_new hD, upd_same⟩ (fun _ _ _ _ => trivial) ?_ ?_
    · rintro i x H1 H2 hi ⟨s1, h1⟩ ⟨rfl, rfl⟩
      refine ⟨rfl, yes_of ?_⟩
      refine ⟨_, rfl, dD i fun _ => 0, Sum.inl (i : Int), rfl, h1, ?_, fun b o e' => ?_, ?_⟩
      · rw [dG_len]
        exact small1000 (by omega)
      · rw [upd_ne (ne_of_none e' hD)]
        exact s1 b o e'
      · rw [upd_same]
        exact congrArg (fun k => some (HO.dK k)) (dD_more (n := i) (f := fun _ => 0))
    · rintro H1 ⟨s1, h1⟩
      have h1' : H1 D = some (.dK (dD kss.length (btN kss 0 0))) := by
        rw [h1]
        exact congrArg (fun k => some (HO.dK k)) (dD_congr fun i _ => (btN_zero kss i).symm)
      refine ⟨_, rfl, c, _, rfl, SqL.of (s1 _ _ t.top), ?_⟩
      refine for_it (walk_enum (K := K) (a := c) (xs := rs.map V.ref)) (fun m σ H' => ∃ a b e1 e2 : Option V, σ = [some (.ref c), some (.ref D), a, b, e1, e2] ∧ Same H H' ∧ H' D = some (.dK (dD kss.length (btN kss m 0))))
        ⟨_, _, _, _, rfl, s1, h1'⟩ (fun m σ H' _ z => by
          obtain ⟨_, _, _, _, _, s', _⟩ := z
          exact SqL.of (s' _ _ t.top)) ?_ ?_
      · rintro m y σ H' H'' hm ⟨a, b, e1, e2, rfl, s2, h2⟩ ⟨A2, x1, x2, rfl, nA, rfl, g1, g2⟩
        rw [lr] at hm
        have g1' : x1 = .int (m : Nat) := (Option.some.inj g1).symm
        subst g1'
        obtain ⟨r, ks, c1, c2, c3⟩ := t.at (i := m) (by omega)
        have g2' : x2 = .ref r := by
          have e3 : (rs.map V.ref)[m]? = some x2 := g2
          rw [List.getElem?_map, c1] at e3
          exact (Option.some.inj e3).symm
        subst g2'
        obtain ⟨lk, bk⟩ := fine _ _ c2
        have sA := same_new (o := .tup [.int (m : Nat), .ref r]) nA
        have s3 := s2.trans sA
        refine ⟨A2, [.int (m : Nat), .ref r], rfl, SqT.of upd_same, rfl, _, _, rfl, _, _, rfl, rfl, ?_⟩
        refine ⟨_, rfl, r, _, rfl, SqL.of (s3 _ _ c3), ?_⟩
        have lks : (ks.map V.int).length = m := by rw [List.length_map]; exact lk
        refine for_it (walk_enum (K := K) (a := r) (xs := ks.map V.int)) (fun j σ H' => ∃ e1 e2 : Option V, σ = [some (.ref c), some (.ref D), some (.int (m : Nat)), some (.ref r), e1, e2] ∧ Same H H' ∧ H' D = some (.dK (dD kss.length (btN kss m j))))
          ⟨e1, e2, rfl, s3, sA _ _ h2⟩ (fun j σ H' _ z => by
            obtain ⟨_, _, _, s', _⟩ := z
            exact SqL.of (s' _ _ c3)) ?_ ?_
        · rintro j y σ H3 H4 hj ⟨e1, e2, rfl, s4, h4⟩ ⟨A3, z1, z2, rfl, nA3, rfl, g1, g2⟩
          rw [lks] at hj
          have g1' : z1 = .int (j : Nat) := (Option.some.inj g1).symm
          subst g1'
          have jl : j < ks.length := by omega
          have ez : tieN kss m j = ks[j] := by
            have eA : kss.getD m [] = ks := by rw [List.getD_eq_getElem?_getD, c2]; rfl
            unfold tieN
            rw [Nat.max_eq_left (by omega), Nat.min_eq_right (by omega), eA, List.getD_eq_getElem?_getD, List.getElem?_eq_getElem jl]
            rfl
          have g2' : z2 = .int (tieN kss m j) := by
            have e3 : (ks.map V.int)[j]? = some z2 := g2
            rw [List.getElem?_map, List.getElem?_eq_getElem jl] at e3
            rw [ez]
            exact (Option.some.inj e3).symm
          subst g2'
          have sB := same_new (o := .tup [.int (j : Nat), .int (tieN kss m j)]) nA3
          have s5 := s4.trans sB
          have h5 := sB _ _ h4
          refine ⟨A3, [.int (j : Nat), .int (tieN kss m j)], rfl, SqT.of upd_same, rfl, _, _, rfl, _, _, rfl, rfl, ?_⟩
          generalize upd H3 A3 (.tup [.int (j : Nat), .int (tieN kss m j)]) = H5 at s5 h5
          refine ⟨_, rfl, rfl, _, rfl, ?_⟩
          have dz : decide (V.int (tieN kss m j) = V.int 1) = wonB kss m j := by
            unfold wonB
            rw [if_pos (by omega)]
            exact decide_eq_decide.mpr ⟨fun z => V.int.inj z, fun z => by rw [z]⟩
          rw [dz]
          have nx := btN_next fine (m := m) (r := j) (by omega) hm
          have fin : ∀ (i v : Nat), i < kss.length → (∀ p, btN kss m (j + 1) p = if p = i then v else btN kss m j p) →
              ∃ e1 e2 : Option V, [some (V.ref c), some (.ref D), some (.int (m : Nat)), some (.ref r), some (.int (j : Nat)), some (.int (tieN kss m j))] = [some (.ref c), some (.ref D), some (.int (m : Nat)), some (.ref r), e1, e2] ∧ Same H (upd H5 D (.dK (putK (dD kss.length (btN kss m j)) (Sum.inl (i : Int)) (.int (v : Int))))) ∧ (upd H5 D (.dK (putK (dD kss.length (btN kss m j)) (Sum.inl (i : Int)) (.int (v : Int))))) D = some (.dK (dD kss.length (btN kss m (j + 1)))) := fun i v hi e => ⟨_, _, rfl, fun b o e' => by
                rw [upd_ne (ne_of_none e' hD)]
                exact s5 b o e', by
                rw [upd_same, dD_put hi]
                exact congrArg (fun k => some (HO.dK k)) (dD_congr fun p _ => (e p).symm)⟩
          cases wj : wonB kss m j with
          | true =>
            refine iteT ⟨_, rfl, _, rfl, D, V.int ((btN kss m j m : Nat) : Int), rfl, getN h5 hm, ?_⟩
            refine ⟨_, rfl, j, rfl, rfl, by omega, _, _, rfl, rfl, _, putN m h5 (by omega), ?_⟩
            exact fin m _ hm fun p => by
              rw [nx p, wj, if_pos rfl]
          | false =>
            have jn : j < kss.length := by omega
            refine iteF ⟨_, rfl, _, rfl, D, V.int ((btN kss m j j : Nat) : Int), rfl, getN h5 jn, ?_⟩
            refine ⟨_, rfl, m, rfl, rfl, by omega, _, _, rfl, rfl, _, putN j h5 (by omega), ?_⟩
            exact fin j _ jn fun p => by
              rw [nx p, wj, if_neg (by decide)]
        · rintro σ H3 ⟨e1, e2, rfl, s4, h4⟩
          rw [lks, btN_row] at h4
          exact ⟨_, _, _, _, rfl, s4, h4⟩
      · rintro σ H3 ⟨a, b, e1, e2, rfl, s4, h4⟩
        rw [lr] at h4
        exact ⟨_, rfl, q D H3 s4 hD h4⟩
end
end K58

/-! Leagues as relations: runs, and what turns can make. -/
namespace LG
/-- of any two people, below n, one beat the other -/
def Anti (n : Nat) (W : Nat → Nat → Bool) : Prop := ∀ i j, i < n → j < n → i ≠ j → W j i = !W i j
def Al (n : Nat) (W : Nat → Nat → Bool) (i j : Nat) : Prop := ∀ m, m < n → m ≠ i → m ≠ j → W m i = W m j
/-- j comes next behind i -/
def Nx (n : Nat) (W : Nat → Nat → Bool) (i j : Nat) : Prop := i < n ∧ j < n ∧ i ≠ j ∧ W i j = true ∧ Al n W i j
/-- from i to j by some steps -/
inductive Ch (n : Nat) (W : Nat → Nat → Bool) : Nat → Nat → Prop
  | one {i j : Nat} : Nx n W i j → Ch n W i j
  | more {i j k : Nat} : Nx n W i j → Ch n W j k → Ch n W i k
/-- of one run -/
inductive Eq (n : Nat) (W : Nat → Nat → Bool) : Nat → Nat → Prop
  | refl (i : Nat) : Eq n W i i
  | fwd {i j k : Nat} : Eq n W i j → Nx n W j k → Eq n W i k
  | bwd {i j k : Nat} : Eq n W i j → Nx n W k j → Eq n W i k
def turn (W : Nat → Nat → Bool) (a b : Nat) : Nat → Nat → Bool := fun i j => if (i = a ∧ j = b) ∨ (i = b ∧ j = a) then !W i j else W i j
section
variable {n : Nat} {W W' : Nat → Nat → Bool} {i j k a b : Nat}
theorem Al.symm (h : Al n W i j) : Al n W j i := fun m hm h1 h2 => (h m hm h2 h1).symm
theorem won_no (A : Anti n W) (hi : i < n) (hj : j < n) (ne : i ≠ j) (h : W i j = true) : W j i = false := by
  rw [A i j hi hj ne, h]
  rfl
theorem won_of (A : Anti n W) (hi : i < n) (hj : j < n) (ne : i ≠ j) (h : W j i = false) : W i j = true := by
  rw [A i j hi hj ne] at h
  cases e : W i j with
  | true => rfl
  | false => rw [e] at h; cases h
/-- there is one next one at most -/
theorem nx_fun (A : Anti n W) (h : Nx n W i j) (g : Nx n W i k) : j = k := by
  refine Classical.byContradiction fun ne => ?_
  obtain ⟨hi, hj, ij, w1, a1⟩ := h
  obtain ⟨_, hk, ik, w2, a2⟩ := g
  -- k is a third one for i and j: k lost to i, so k lost to j; the same the other way about
  have e1 := a1 k hk (Ne.symm ik) (Ne.symm ne)
  have e2 := a2 j hj (Ne.symm ij) ne
  rw [won_no A hi hk ik w2] at e1
  rw [won_no A hi hj ij w1] at e2
  have := A j k hj hk ne
  rw [← e1, ← e2] at this
  cases this
theorem nx_inj (A : Anti n W) (h : Nx n W i k) (g : Nx n W j k) : i = j := by
  refine Classical.byContradiction fun ne => ?_
  obtain ⟨hi, hk, ik, w1, a1⟩ := h
  obtain ⟨hj, _, jk, w2, a2⟩ := g
  have e1 := a1 j hj (Ne.symm ne) jk
  have e2 := a2 i hi ne ik
  rw [w2] at e1
  rw [w1] at e2
  have := A i j hi hj ne
  rw [e1, e2] at this
  cases this
theorem Ch.left (h : Ch n W i j) : i < n := by
  cases h with
  | one h => exact h.1
  | more h _ => exact h.1
theorem Ch.right (h : Ch n W i j) : j < n := by
  induction h with
  | one h => exact h.2.1
  | more _ _ ih => exact ih
/-- who is ahead in a run won -/
theorem ch_won (A : Anti n W) (h : Ch n W i j) : i ≠ j ∧ W i j = true := by
  induction h with
  | one h => exact ⟨h.2.2.1, h.2.2.2.1⟩
  | @more i j k h g ih =>
    obtain ⟨hi, hj, ij, w, al⟩ := h
    obtain ⟨jk, wk⟩ := ih
    have hk := g.right
    have ik : i ≠ k := fun z => by
      subst z
      rw [won_no A hi hj ij w] at wk
      cases wk
    refine ⟨ik, ?_⟩
    have := al k hk (Ne.symm ik) (Ne.symm jk)
    rw [won_no A hj hk jk wk] at this
    exact won_of A hi hk ik this
theorem Ch.snoc (h : Ch n W i j) (g : Nx n W j k) : Ch n W i k := by
  induction h with
  | one h => exact .more h (.one g)
  | more h _ ih => exact .more h (ih g)
theorem Ch.trans (h : Ch n W i j) (g : Ch n W j k) : Ch n W i k := by
  induction h with
  | one h => exact .more h g
  | more h _ ih => exact .more h (ih g)
/-- the first step of a run is known -/
theorem ch_first (A : Anti n W) (h : Ch n W i k) (g : Nx n W i j) : j = k ∨ Ch n W j k := by
  cases h with
  | one h => exact .inl (nx_fun A g h)
  | more h r => rw [nx_fun A g h]; exact .inr r
theorem ch_last (A : Anti n W) (h : Ch n W i k) (g : Nx n W j k) : i = j ∨ Ch n W i j := by
  induction h with
  | one h => exact .inl (nx_inj A h g)
  | more h r ih =>
    rcases ih g with e | e
    · subst e
      exact .inr (.one h)
    · exact .inr (.more h e)
theorem eq_line (A : Anti n W) (h : Eq n W i j) : i = j ∨ Ch n W i j ∨ Ch n W j i := by
  induction h with
  | refl => exact .inl rfl
  | @fwd j k _ g ih =>
    rcases ih with e | e | e
    · subst e
      exact .inr (.inl (.one g))
    · exact .inr (.inl (e.snoc g))
    · rcases ch_first A e g with z | z
      · exact .inl z.symm
      · exact .inr (.inr z)
  | @bwd j k _ g ih =>
    rcases ih with e | e | e
    · subst e
      exact .inr (.inr (.one g))
    · rcases ch_last A e g with z | z
      · exact .inl z
      · exact .inr (.inl z)
    · exact .inr (.inr (.more g e))
theorem Eq.trans (h : Eq n W i j) (g : Eq n W j k) : Eq n W i k := by
  induction g with
  | refl => exact h
  | fwd _ s ih => exact .fwd ih s
  | bwd _ s ih => exact .bwd ih s
theorem Eq.symm (h : Eq n W i j) : Eq n W j i := by
  induction h with
  | refl => exact .refl _
  | fwd _ s ih => exact (Eq.bwd (.refl _) s).trans ih
  | bwd _ s ih => exact (Eq.fwd (.refl _) s).trans ih
theorem Ch.eq (h : Ch n W i j) : Eq n W i j := by
  induction h with
  | one h => exact .fwd (.refl _) h
  | more h _ ih => exact (Eq.fwd (.refl _) h).trans ih
/-- within a run, who won is ahead -/
theorem eq_won (A : Anti n W) (h : Eq n W i j) (ne : i ≠ j) (w : W i j = true) : Ch n W i j := by
  rcases eq_line A h with e | e | e
  · exact absurd e ne
  · exact e
  · have := (ch_won A e).2
    rw [won_no A e.right e.left ne w] at this
    cases this
/-! ### a turn -/
theorem turn_same (h : ¬ ((i = a ∧ j = b) ∨ (i = b ∧ j = a))) : turn W a b i j = W i j := if_neg h
theorem turn_ab : turn W a b a b = !W a b := if_pos (.inl ⟨rfl, rfl⟩)
theorem turn_ba : turn W a b b a = !W b a := if_pos (.inr ⟨rfl, rfl⟩)
theorem turn_anti (A : Anti n W) : Anti n (turn W a b) := fun i j hi hj ne => by
  unfold turn
  by_cases c : (i = a ∧ j = b) ∨ (i = b ∧ j = a)
  · rw [if_pos c, if_pos (by omega), A i j hi hj ne]
  · rw [if_neg c, if_neg (by omega), A i j hi hj ne]
theorem turn_back : turn (turn W a b) a b = W := by
  funext i j
  unfold turn
  by_cases c : (i = a ∧ j = b) ∨ (i = b ∧ j = a)
  · rw [if_pos c, if_pos c, Bool.not_not]
  · rw [if_neg c, if_neg c]
theorem turn_comm : turn W a b = turn W b a := by
  funext i j
  unfold turn
  by_cases c : (i = a ∧ j = b) ∨ (i = b ∧ j = a)
  · rw [if_pos c, if_pos (by omega)]
  · rw [if_neg c, if_neg (by omega)]
theorem turn_al (h : Al n W a b) : Al n (turn W a b) a b := fun m hm ma mb => by
  rw [turn_same (by omega), turn_same (by omega)]
  exact h m hm ma mb
/-- the two change places in their run: all pairs of neighbours behind a turn -/
theorem turn_nx (A : Anti n W) (h : Nx n W a b) {x y : Nat} : Nx n (turn W a b) x y ↔ (x = b ∧ y = a) ∨ (y = b ∧ x ≠ a ∧ Nx n W x a) ∨ (x = a ∧ y ≠ b ∧ Nx n W b y) ∨ (x ≠ a ∧ x ≠ b ∧ y ≠ a ∧ y ≠ b ∧ Nx n W x y) := by
  obtain ⟨ha, hb, ab, w, al⟩ := h
  have wba := won_no A ha hb ab w
  constructor
  · rintro ⟨hx, hy, xy, v, xl⟩
    by_cases xa : x = a
    · subst xa
      by_cases yb : y = b
      · subst yb
        rw [turn_ab, w] at v
        cases v
      · refine .inr (.inr (.inl ⟨rfl, yb, hb, hy, Ne.symm yb, ?_, fun m hm mb my => ?_⟩))
        · have := xl b hb (Ne.symm ab) (Ne.symm yb)
          rw [turn_ba, wba, turn_same (by omega)] at this
          exact this.symm
        · by_cases mx : m = x
          · subst mx
            rw [w]
            rw [turn_same (by omega)] at v
            exact v.symm
          · have := xl m hm mx my
            rw [turn_same (by omega), turn_same (by omega)] at this
            rw [← al m hm mx mb]
            exact this
    by_cases xb : x = b
    · subst xb
      by_cases ya : y = a
      · exact .inl ⟨rfl, ya⟩
      · -- b is ahead of y, a beat b and lost to y
        exfalso
        have e := xl a ha ab (Ne.symm ya)
        rw [turn_ab, w, turn_same (by omega)] at e
        rw [turn_same (by omega)] at v
        have e2 := al y hy ya (Ne.symm xy)
        rw [won_no A hb hy xy v] at e2
        rw [A y a hy ha ya, e2] at e
        cases e
    by_cases ya : y = a
    · subst ya
      exfalso
      have e := xl b hb (Ne.symm xb) (Ne.symm ab)
      rw [turn_ba, wba, turn_same (by omega)] at e
      rw [turn_same (by omega)] at v
      have e2 := al x hx xa xb
      rw [v] at e2
      rw [A x b hx hb xb, ← e2] at e
      cases e
    by_cases yb : y = b
    · subst yb
      refine .inr (.inl ⟨rfl, xa, hx, ha, xa, ?_, fun m hm mx ma => ?_⟩)
      · have := xl a ha (Ne.symm xa) ab
        rw [turn_ab, w, turn_same (by omega)] at this
        exact won_of A hx ha xa this
      · by_cases my : m = y
        · subst my
          rw [wba]
          rw [turn_same (by omega)] at v
          exact won_no A hx hb xb v
        · have := xl m hm mx my
          rw [turn_same (by omega), turn_same (by omega)] at this
          rw [al m hm ma my]
          exact this
    · refine .inr (.inr (.inr ⟨xa, xb, ya, yb, hx, hy, xy, ?_, fun m hm mx my => ?_⟩))
      · rw [turn_same (by omega)] at v
        exact v
      · have := xl m hm mx my
        rw [turn_same (by omega), turn_same (by omega)] at this
        exact this
  · rintro (⟨rfl, rfl⟩ | ⟨rfl, xa, hx, _, _, v, xl⟩ | ⟨rfl, yb, _, hy, _, v, yl⟩ | ⟨xa, xb, ya, yb, hx, hy, xy, v, xl⟩)
    · refine ⟨hb, ha, Ne.symm ab, ?_, (turn_al al).symm⟩
      rw [turn_ba, wba]
      rfl
    · have xb : x ≠ y := fun z => by
        subst z
        rw [v] at wba
        cases wba
      have vb : W x y = true := by
        have := xl y hb (Ne.symm xb) (Ne.symm ab)
        rw [wba] at this
        exact won_of A hx hb xb this
      refine ⟨hx, hb, xb, by rw [turn_same (by omega)]; exact vb, fun m hm mx my => ?_⟩
      by_cases ma : m = a
      · subst ma
        rw [turn_ab, w, turn_same (by omega)]
        exact won_no A hx ha xa v
      · rw [turn_same (by omega), turn_same (by omega), xl m hm mx ma]
        exact al m hm ma my
    · have xy : x ≠ y := fun z => by
        subst z
        rw [won_no A ha hb ab w] at v
        cases v
      have vy : W x y = true := by
        have := al y hy (Ne.symm xy) yb
        rw [won_no A hb hy (Ne.symm yb) v] at this
        exact won_of A ha hy xy this
      refine ⟨ha, hy, xy, by rw [turn_same (by omega)]; exact vy, fun m hm mx my => ?_⟩
      by_cases mb : m = b
      · subst mb
        rw [turn_ba, wba, turn_same (by omega), v]
        rfl
      · rw [turn_same (by omega), turn_same (by omega), al m hm mx mb]
        exact yl m hm mb my
    · refine ⟨hx, hy, xy, by rw [turn_same (by omega)]; exact v, fun m hm mx my => ?_⟩
      rw [turn_same (by omega), turn_same (by omega)]
      exact xl m hm mx my
theorem turn_sub (A : Anti n W) (h : Nx n W a b) {x y : Nat} (g : Eq n (turn W a b) x y) : Eq n W x y := by
  have one : ∀ {x y : Nat}, Nx n (turn W a b) x y → Eq n W x y := fun {x y} g => by
    rcases (turn_nx A h).mp g with ⟨rfl, rfl⟩ | ⟨rfl, _, e⟩ | ⟨rfl, _, e⟩ | ⟨_, _, _, _, e⟩
    · exact .bwd (.refl _) h
    · exact .fwd (.fwd (.refl _) e) h
    · exact .fwd (.fwd (.refl _) h) e
    · exact .fwd (.refl _) e
  induction g with
  | refl => exact .refl _
  | fwd _ s ih => exact ih.trans (one s)
  | bwd _ s ih => exact ih.trans (one s).symm
theorem turn_eq (A : Anti n W) (h : Nx n W a b) {x y : Nat} : Eq n (turn W a b) x y ↔ Eq n W x y := by
  refine ⟨turn_sub A h, fun g => ?_⟩
  have h' : Nx n (turn W a b) b a := (turn_nx A h).mpr (.inl ⟨rfl, rfl⟩)
  have g' : Eq n (turn (turn W a b) b a) x y := by
    rw [turn_comm, turn_back]
    exact g
  exact turn_sub (turn_anti A) h' g'
/-! ### joined leagues -/
/-- the same runs, and the same between them -/
def Like (n : Nat) (W V : Nat → Nat → Bool) : Prop := (∀ i j, Eq n V i j ↔ Eq n W i j) ∧ ∀ i j, i < n → j < n → i ≠ j → ¬ Eq n W i j → V i j = W i j
theorem Like.refl : Like n W W := ⟨fun i j => Iff.rfl, fun i j _ _ _ _ => rfl⟩
theorem Like.symm {V : Nat → Nat → Bool} (h : Like n W V) : Like n V W := ⟨fun i j => (h.1 i j).symm, fun i j hi hj ne no => (h.2 i j hi hj ne fun z => no ((h.1 i j).mpr z)).symm⟩
theorem Like.trans {V U : Nat → Nat → Bool} (h : Like n W V) (g : Like n V U) : Like n W U := ⟨fun i j => (g.1 i j).trans (h.1 i j), fun i j hi hj ne no => (g.2 i j hi hj ne fun z => no ((h.1 i j).mp z)).trans (h.2 i j hi hj ne no)⟩
/-- the ones that differ: there are neighbours in the first league whose result is turned in the other one -/
theorem like_next (A : Anti n W) {V : Nat → Nat → Bool} (B : Anti n V) (h : Like n W V) {i j : Nat} (hi : i < n) (hj : j < n) (ne : i ≠ j) (d : V i j ≠ W i j) : ∃ a b, Nx n W a b ∧ V b a = true := by
  refine Classical.byContradiction fun no => ?_
  have no : ∀ a b, Nx n W a b → V a b = true := fun a b s => by
    cases e : V a b with
    | true => rfl
    | false => exact absurd ⟨a, b, s, won_of B s.2.1 s.1 (Ne.symm s.2.2.1) e⟩ no
  -- all that is ahead in W is so in V
  have all : ∀ {x y : Nat}, Ch n W x y → V x y = true := by
    intro x y g
    induction g with
    | one s => exact no _ _ s
    | @more x y z s r ih =>
      have e1 := eq_won B ((h.1 x y).mpr (.fwd (.refl _) s)) s.2.2.1 (no _ _ s)
      have e2 := eq_won B ((h.1 y z).mpr r.eq) (ch_won A r).1 ih
      exact (ch_won B (e1.trans e2)).2
  have e : Eq n W i j := Classical.byContradiction fun z => d (h.2 i j hi hj ne z)
  rcases eq_line A e with z | z | z
  · exact ne z
  · exact d ((all z).trans (ch_won A z).2.symm)
  · have := all z
    refine d ?_
    rw [won_no B hj hi (Ne.symm ne) this, won_no A hj hi (Ne.symm ne) (ch_won A z).2]
theorem nx_like (A : Anti n W) (h : Nx n W a b) : Like n W (turn W a b) := by
  refine ⟨fun i j => turn_eq A h, fun i j hi hj ne no => turn_same ?_⟩
  rintro (⟨rfl, rfl⟩ | ⟨rfl, rfl⟩)
  · exact no (.fwd (.refl _) h)
  · exact no (.bwd (.refl _) h)
end
end LG

/-! A list sorted by a key that a function tells of each item. -/
namespace SKy
open PySem PyProof.Rows
section
variable {prog : Program} {w : World} {A : Around} {E : Value → Shared → Prop} {s : Shared} {a c : Addr} {vs : List Value} {kz : List Int} {P : PySem.Fin → Shared → Prop} {e1 : Nat}
/-- all but two objects is kept -/
def Kp2 (a c : Addr) (h h' : Heap) : Prop := ∀ x o, x ≠ a → x ≠ c → h.get? x = some o → h'.get? x = some o
theorem Kp2.refl {h : Heap} : Kp2 a c h h := fun _ _ _ _ e => e
theorem Kp2.same1 {h g g' : Heap} (k : Kp2 a c h g) (b : Heap.SameBut a g g') : Kp2 a c h g' := fun x o xa xc e => (b.2 x xa).trans (k x o xa xc e)
theorem Kp2.same2 {h g g' : Heap} (k : Kp2 a c h g) (b : Heap.SameBut c g g') : Kp2 a c h g' := fun x o xa xc e => (b.2 x xc).trans (k x o xa xc e)
/-- what the end of a sort leaves -/
def After (s : Shared) (a c : Addr) (kz : List Int) (vs : List Value) (P : PySem.Fin → Shared → Prop) : Prop :=
  ∀ g tk out n, Kp2 a c s.heap g → g.get? a = some (seqObj "list" out n) → KskOut false kz vs out.toList → P (.done (.ret .none)) { s with heap := g, toks := tk }
theorem key_tail {st : SortSt} {ka : Array Value} {n : Nat} (hc : s.heap.get? c = some (seqObj "list" ka n)) (ha : s.heap.get? a = some (seqObj "list" #[] e1)) (ne : c ≠ a)
    (ik : IntsAre ka.toList kz) (lk : kz.length = vs.length) (lv : vs.length ≤ sizeLine) (pm : (arrOf st).Perm (ka.zip vs.toArray)) (so : SortedTo (arrOf st) (arrOf st).size) (nf : failedOf st = none)
    (q : After s a c kz vs P) : wpAny (model prog w) A (ksk_tail a false e1 (.ref c) st) P E s := by
  have lv' := lv
  rw [sizeLine_eq] at lv'
  have ks : ka.size = vs.length := by
    have := ik.length
    rw [Array.length_toList] at this
    omega
  have as : (arrOf st).size = vs.length := by
    rw [pm.size_eq, Array.size_zip, ks, List.size_toArray, Nat.min_self]
  have os : ((arrOf st).map (·.2)).size = vs.length := by rw [Array.size_map]; exact as
  have u1 := Heap.SameBut.update s.heap c (Obj.mapSeq fun _ => (#[] : Array Value))
  have ha1 := (u1.2 a ne.symm).trans ha
  have u2 := Heap.SameBut.update (s.heap.update c (Obj.mapSeq fun _ => (#[] : Array Value))) a (Obj.mapSeq fun _ => (arrOf st).map (·.2))
  obtain ⟨n2, hn2⟩ : ∃ n2, ((s.heap.update c (Obj.mapSeq fun _ => (#[] : Array Value))).update a (Obj.mapSeq fun _ => (arrOf st).map (·.2))).get? a = some (seqObj "list" ((arrOf st).map (·.2)) n2) := ⟨_, get?_update_seq ha1 fun _ => (arrOf st).map (·.2)⟩
  unfold ksk_tail
  dsimp only
  refine wpAny_bind (listUpdate_at hc rfl ?_ (by rw [ks, sizeLine_eq]; omega) (Nat.zero_le _))
  refine wpAny_bind (wpAny_letGo (seqEpoch_at ha1 rfl ?_ |> wpAny_bind))
  refine wpAny_bind (listUpdate_at ha1 rfl ?_ (Nat.zero_le _) (by show ((arrOf st).map (·.2)).size ≤ _; rw [os, sizeLine_eq]; omega))
  rw [nf]
  simp only [bne_self_eq_false, Bool.false_eq_true, if_false]
  have out := ksk_out (b := false) ik pm so
  exact wpAny_pure (q _ _ _ n2 ((Kp2.refl.same2 u1).same1 u2) hn2 out)
theorem key_end {ka : Array Value} {n : Nat} (hc : s.heap.get? c = some (seqObj "list" ka n)) (ha : s.heap.get? a = some (seqObj "list" #[] e1)) (ne : c ≠ a)
    (ik : IntsAre ka.toList kz) (lk : kz.length = vs.length) (lv : vs.length ≤ sizeLine) (q : After s a c kz vs P) : wpAny (model prog w) A (ksk_end a false vs.toArray e1 (.ref c) ka) P E s := by
  have lv' := lv
  rw [sizeLine_eq] at lv'
  have ks : ka.size = vs.length := by
    have := ik.length
    rw [Array.length_toList] at this
    omega
  have zs : (ka.zip vs.toArray).size = vs.length := by
    rw [Array.size_zip, ks, List.size_toArray, Nat.min_self]
  unfold ksk_end
  dsimp only
  simp only [Bool.false_eq_true, if_false]
  by_cases l2 : vs.toArray.size < 2
  · rw [if_pos l2, if_pos l2]
    refine wpAny_bind (wpAny_pure (wpAny_bind ?_))
    rw [StateT.run_pure]
    refine wpAny_pure ?_
    dsimp only
    refine key_tail (st := SortSt.mk' general' (ka.zip vs.toArray) #[] 7 none) hc ha ne ik lk lv (Array.Perm.refl _) (fun i j ij hj => ?_) rfl q
    have hj : j < (ka.zip vs.toArray).size := hj
    rw [zs] at hj
    rw [List.size_toArray] at l2
    obtain rfl : i = j := by omega
    exact Int.le_refl _
  · rw [if_neg l2, if_neg l2]
    rw [List.size_toArray] at l2
    rw [ksk_kind ik (by omega)]
    refine wpAny_bind (wpAny_pure (wpAny_bind ?_))
    refine wpAny_mono (wpS_sortRunsAny (κ := intKind) (a₀ := ka.zip vs.toArray) (st := SortSt.mk' oneType' (ka.zip vs.toArray) #[] 7 none)
      (Q := fun _ st' => failedOf st' = none ∧ (arrOf st').Perm (ka.zip vs.toArray) ∧ SortedTo (arrOf st') (ka.zip vs.toArray).size) intKind_oneLt (ksk_keysOfInt (ksk_intKeys ik)) ⟨Array.Perm.refl _, rfl, rfl⟩ rfl (by omega) fun st' x y z => ⟨y, x, sortedTo_of_int z⟩) ?_ fun _ _ z => z
    rintro ⟨⟨⟩, st'⟩ s' ⟨rfl, nf, pm, so⟩
    dsimp only
    exact key_tail hc ha ne ik lk lv pm (by rw [pm.size_eq]; exact so) nf q
/-- what a call of the key is to do -/
def Keys (prog : Program) (w : World) (A : Around) (s : Shared) (a c : Addr) (f : Value) (vs : List Value) (kz : List Int) : Prop :=
  ∀ (i : Nat) (v : Value) (k : Int), vs[i]? = some v → kz[i]? = some k → ∀ (g : Heap) (tk : Nat), Kp2 a c s.heap g →
    wpAny (model prog w) A (call f [v]) (fun u s' => ∃ g' tk' t', u = .int k t' ∧ s' = { s with heap := g', toks := tk' } ∧ ∀ x o, g.get? x = some o → g'.get? x = some o) (fun _ _ => False) { s with heap := g, toks := tk }
theorem key_rest {f : Value} (hc : s.heap.get? c = some (seqObj "list" #[] 0)) (ha : s.heap.get? a = some (seqObj "list" #[] e1)) (ne : c ≠ a) (lk : kz.length = vs.length) (lv : vs.length ≤ sizeLine)
    (T : Keys prog w A s a c f vs kz) (q : After s a c kz vs P) : wpAny (model prog w) A (ksk_rest a f false vs.toArray e1 (.ref c)) P E s := by
  have lv' := lv
  rw [sizeLine_eq] at lv'
  unfold ksk_rest
  refine wpAny_bind (wpAny_rule ?_)
  rw [List.forIn_toArray]
  refine wpAny_bind (ksk_fold (fun i s' => ∃ g tk ka n, s' = { s with heap := g, toks := tk } ∧ Kp2 a c s.heap g ∧ g.get? c = some (seqObj "list" ka n) ∧ g.get? a = some (seqObj "list" #[] e1) ∧ IntsAre ka.toList (kz.take i)) vs 0 s ⟨s.heap, s.toks, #[], 0, rfl, .refl, hc, ha, by simpa using IntsAre.nil⟩ ?_ ?_)
  · rintro j x s' hx ⟨g, tk, ka, n, rfl, kp, gc, ga, ik⟩
    rw [Nat.zero_add] at ik ⊢
    have jl : j < vs.length := (List.getElem?_eq_some_iff.mp hx).1
    obtain ⟨k, hk⟩ : ∃ k, kz[j]? = some k := ⟨_, List.getElem?_eq_getElem (by omega)⟩
    have ks : ka.size ≤ vs.length := by
      have := ik.length
      rw [Array.length_toList, List.length_take] at this
      omega
    refine wpAny_bind (wpAny_attempt (wpAny_mono (T j x k hx hk g tk kp) (fun v s'' hv => ?_) fun _ _ z => z.elim))
    obtain ⟨g', tk', t', rfl, rfl, old⟩ := hv
    dsimp only
    have gc' := old _ _ gc
    have u := Heap.SameBut.update g' c (Obj.mapSeq (·.push (.int k t')))
    obtain ⟨n2, hn2⟩ : ∃ n2, (g'.update c (Obj.mapSeq (·.push (.int k t')))).get? c = some (seqObj "list" (ka.push (.int k t')) n2) := ⟨_, get?_update_seq gc' (·.push (.int k t'))⟩
    refine wpAny_bind (listUpdate_at gc' rfl ?_ (by rw [sizeLine_eq]; omega) (by show (ka.push _).size ≤ _; rw [Array.size_push, sizeLine_eq]; omega))
    refine wpAny_pure ⟨rfl, _, _, ka.push (.int k t'), n2, rfl, Kp2.same2 (fun x o xa xc e => old x o (kp x o xa xc e)) u, hn2, (u.2 a ne.symm).trans (old _ _ ga), ?_⟩
    rw [List.take_add_one, hk, Array.toList_push]
    exact ksk_snoc ik
  · rintro s' ⟨g, tk, ka, n, rfl, kp, gc, ga, ik⟩
    rw [Nat.zero_add, ← lk, List.take_length] at ik
    refine wpAny_bind (listItems_at gc rfl ?_)
    exact key_end gc ga ne ik lk lv fun g2 tk2 out m kp2 => q g2 tk2 out m fun x o xa xc e => kp2 x o xa xc (kp x o xa xc e)
/-- sorted(l, key=f) -/
theorem sorted_key {l : Addr} {f : Value} {Q : Value → Shared → Prop} (hl : s.heap.IsList l vs.toArray) (lk : kz.length = vs.length) (lv : vs.length ≤ sizeLine) (ht : ∀ x, Builtin.«list.sort» ⟨[.ref x], [(Str.ofString "key", f)]⟩ = ksk_tree x f false)
    (T : ∀ (g : Heap) (a c : Addr), (∀ x o, s.heap.get? x = some o → x ≠ a ∧ x ≠ c ∧ g.get? x = some o) → Keys prog w A.in1.in1 { s with heap := g } a c f vs kz)
    (q : ∀ g tk out n p, s.heap.objs.size ≤ p → (∀ x o, s.heap.get? x = some o → g.get? x = some o) → g.get? p = some (seqObj "list" out n) → KskOut false kz vs out.toList → Q (.ref p) { s with heap := g, toks := tk }) :
    wpAny (model prog w) A (call (.builtin "sorted") [.ref l] [(Str.ofString "key", f)]) Q E s := by
  refine call_function_entry_kw kind_sorted plain_sorted entry_sorted (ksk_s1 _ _) ?_
  unfold Builtin.«sorted»
  refine wpAny_bind (m := checkCount "sorted" 1 1 _) (wpAny_pure ?_)
  refine wpAny_bind (collect_list hl (wpAny_bind (wpAny_newList ?_ lv)) lv)
  obtain ⟨h1, e1⟩ : ∃ h1, h1 = (s.heap.push (seqObj "list" #[] 0)).update s.heap.objs.size (Obj.mapSeq (· ++ vs.toArray)) := ⟨_, rfl⟩
  rw [← e1]
  have z1 : h1.objs.size = s.heap.objs.size + 1 := by rw [e1, Heap.size_update, size_push']
  have old : ∀ x o, s.heap.get? x = some o → x ≠ h1.objs.size ∧ (h1.push (seqObj "list" vs.toArray 0)).get? x = some o := fun x o e => by
    have lt : x < s.heap.objs.size := Heap.lt_size e
    refine ⟨Nat.ne_of_lt (by rw [z1]; exact Nat.lt_succ_of_lt lt), Heap.get?_push_of_some _ ?_⟩
    rw [e1, Heap.get?_update_ne _ _ _ _ (Nat.ne_of_lt lt)]
    exact Heap.get?_push_of_some _ e
  have hl2 : (h1.push (seqObj "list" vs.toArray 0)).get? h1.objs.size = some (seqObj "list" vs.toArray 0) := Heap.get?_push_size _ rfl
  refine wpAny_bind (wpAny_holding (wpAny_call_entry_kw slot_list_sort ⟨_, hl2, rfl⟩ entry_list_sort ?_ (ksk_l1 _ _)))
  rw [ht]
  generalize hD : h1.objs.size = D at *
  have lv' := lv
  rw [sizeLine_eq] at lv'
  unfold ksk_tree
  refine wpAny_bind (listItems_at hl2 rfl ?_)
  have u := Heap.SameBut.update (h1.push (seqObj "list" vs.toArray 0)) D (Obj.mapSeq fun _ => (#[] : Array Value))
  obtain ⟨n1, hn1⟩ : ∃ n1, ((h1.push (seqObj "list" vs.toArray 0)).update D (Obj.mapSeq fun _ => (#[] : Array Value))).get? D = some (seqObj "list" #[] n1) := ⟨_, get?_update_seq hl2 fun _ => #[]⟩
  refine wpAny_bind (listUpdate_at hl2 rfl (wpAny_bind (seqEpoch_at hn1 rfl (wpAny_bind (wpAny_newTuple (wpAny_bind (wpAny_newList (wpAny_holding ?_) (Nat.zero_le _))) lv)))) (by rw [List.size_toArray, sizeLine_eq]; omega) (Nat.zero_le _))
  obtain ⟨h2, e2⟩ : ∃ h2, h2 = ((h1.push (seqObj "list" vs.toArray 0)).update D (Obj.mapSeq fun _ => (#[] : Array Value))).push (seqObj "tuple" vs.toArray 0) := ⟨_, rfl⟩
  have z2 : h2.objs.size = D + 2 := by rw [e2, size_push', Heap.size_update, size_push', hD]
  have old2 : ∀ x o, s.heap.get? x = some o → x ≠ D ∧ x ≠ D + 2 ∧ (h2.push (seqObj "list" #[] 0)).get? x = some o := fun x o e => by
    obtain ⟨x1, x2⟩ := old x o e
    have lt : x < s.heap.objs.size := Heap.lt_size e
    refine ⟨x1, Nat.ne_of_lt (Nat.lt_of_lt_of_le lt (by rw [z1]; exact Nat.le_succ_of_le (Nat.le_succ_of_le (Nat.le_succ _)))), Heap.get?_push_of_some _ ?_⟩
    rw [e2]
    exact Heap.get?_push_of_some _ ((u.2 x x1).trans x2)
  have hc : (h2.push (seqObj "list" #[] 0)).get? (D + 2) = some (seqObj "list" #[] 0) := by
    rw [← z2]
    exact Heap.get?_push_size _ rfl
  have ha : (h2.push (seqObj "list" #[] 0)).get? D = some (seqObj "list" #[] n1) := by
    refine Heap.get?_push_of_some _ ?_
    rw [e2]
    exact Heap.get?_push_of_some _ hn1
  rw [← e2]
  have : h2.objs.size = D + 2 := z2
  show wpAny _ _ (ksk_rest D f false vs.toArray _ (.ref h2.objs.size)) _ _ { s with heap := h2.push (seqObj "list" #[] 0) }
  rw [z2]
  refine key_rest (s := { s with heap := h2.push (seqObj "list" #[] 0) }) hc ha (Nat.ne_of_gt (Nat.lt_add_of_pos_right (by decide))) lk lv (T _ D (D + 2) old2) fun g tk out m kp hg ko => ⟨_, rfl, wpAny_pure ⟨_, rfl, ?_⟩⟩
  exact q g tk out m D (by rw [z1]; exact Nat.le_succ _) (fun x o e => kp x o (old2 x o e).1 (old2 x o e).2.1 (old2 x o e).2.2) hg ko
end
end SKy
namespace L2
open PySem PySem.Spec PyProof.Rows
/-- the least number of a list is its key -/
def rSortMin (K : PySem.W.Frag) : V → Hp → VK → Prop := fun x H Q => ∃ (a : Addr) (rs : List Addr) (nss : List (List Int)) (kz : List Int), x = .ref a ∧ SqL K H a (rs.map V.ref) ∧ nss.length = rs.length ∧ kz.length = rs.length ∧
  (∀ (i : Nat) (r : Addr) (ns : List Int), rs[i]? = some r → nss[i]? = some ns → SqL K H r (ns.map V.int) ∧ ∃ k, kz[i]? = some k ∧ k ∈ ns ∧ ∀ y ∈ ns, k ≤ y) ∧
  ∀ (p : Addr) (ps : List (Int × Addr)), ps.Perm (kz.zip rs) → ps.Pairwise (fun x y => x.1 ≤ y.1) → H p = none → Q (.ref p) (upd H p (.lst (ps.map fun x => V.ref x.2)))
theorem min_same {ns : List Int} {k m : Int} (hk : k ∈ ns) (lk : ∀ y ∈ ns, k ≤ y) (hm : m ∈ ns) (lm : ∀ y ∈ ns, m ≤ y) : m = k := Int.le_antisymm (lm k hk) (lk m hm)
section
variable {X : Cx} {x y : Str} {p pos py : Pos} {e : Expr} {t : TE}
theorem skRefs : ∀ {rs : List Addr} {us : List Value}, Vals (rs.map V.ref) us → us = rs.map Value.ref
  | [], [], _ => rfl
  | [], _ :: _, h => nomatch h
  | _ :: _, [], h => nomatch h
  | r :: rs, u :: us, .cons h g => by
    have h : u = Value.ref r := h
    rw [h, skRefs g]
    rfl
def adrOf : Value → Addr
  | .ref a => a
  | _ => 0
theorem zip_adr (kz : List Int) (rs : List Addr) : kz.zip (rs.map Value.ref) = (kz.zip rs).map fun x => (x.1, Value.ref x.2) := by
  induction rs generalizing kz with
  | nil => rw [List.map_nil, List.zip_nil_right, List.zip_nil_right, List.map_nil]
  | cons r rs ih =>
    cases kz with
    | nil => rfl
    | cons k kz => rw [List.map_cons, List.zip_cons_cons, List.zip_cons_cons, List.map_cons, ih]
theorem run_sortMin {pins : List (Addr × Obj)} {s : Shared} {σ : St} {H : Hp} {v : V} {u : Value} {Q : VK} (hcalm : X.calm = true) (I : Inv X pins σ H s) (rv : RelV v u) (h : rSortMin X.K v H Q) :
    wpAny (model X.prog X.w) X.A (call (.builtin "sorted") [u] [(Str.ofString "key", .builtin "min")]) (EP X pins σ Q) X.xe s := by
  obtain ⟨a, rs, nss, kz, rfl, hl, ln, lz, each, q⟩ := h
  obtain rfl : u = Value.ref a := rv
  obtain ⟨its, r, ha, hz⟩ := I.list hl
  have ei := skRefs r
  subst ei
  rw [List.length_map] at hz
  refine SKy.sorted_key (kz := kz) ha.isList (by rw [List.length_map]; exact lz) (by rw [List.length_map]; exact hz) (fun _ => PyProof.Rows.ksk_t4 "min" _) (fun g a' c old => ?_) fun g tk out n p hp old hg ko => ?_
  · intro i v k hv hk g2 tk kp
    rw [List.getElem?_map] at hv
    cases er : rs[i]? with
    | none => rw [er] at hv; cases hv
    | some r0 =>
      rw [er] at hv
      cases hv
      obtain ⟨ns, en⟩ : ∃ ns, nss[i]? = some ns := ⟨_, List.getElem?_eq_getElem (by rw [ln]; exact (List.getElem?_eq_some_iff.mp er).1)⟩
      obtain ⟨hr, k', ek, hk1, hk2⟩ := each i r0 ns er en
      rw [hk] at ek
      cases ek
      obtain ⟨zs, rz, hr2, _⟩ := I.list hr
      have hr3 : ∀ o, s.heap.get? r0 = some o → g2.get? r0 = some o := fun o e => kp _ _ (old _ _ e).1 (old _ _ e).2.1 (old _ _ e).2.2
      obtain ⟨o, n, e, rest⟩ := hr2
      have hl3 : PlainL g2 r0 zs.toArray := ⟨o, n, hr3 o e, rest⟩
      have hne : 0 < ns.length := List.length_pos_iff.mpr (List.ne_nil_of_mem hk1)
      refine min_raw (s := { s with heap := g2, toks := tk }) (I.ok.hd hcalm) hl3.isList rz.ints hne fun h' tk' m t' old' hm lm => ?_
      exact ⟨h', tk', t', by rw [min_same hk1 hk2 hm lm], rfl, old'⟩
  · obtain ⟨ps, pm, eo, so⟩ := ko
    obtain ⟨zs, ez⟩ : ∃ zs : List (Int × Addr), zs = ps.map fun x => (x.1, adrOf x.2) := ⟨_, rfl⟩
    have pz : zs.Perm (kz.zip rs) := by
      have := pm.map fun x : Int × Value => (x.1, adrOf x.2)
      rw [zip_adr, List.map_map] at this
      rw [ez]
      refine this.trans (List.Perm.of_eq ?_)
      show List.map (fun x : Int × Addr => x) _ = _
      exact List.map_id' _
    have back : ps.map Prod.snd = zs.map fun x => Value.ref x.2 := by
      rw [ez, List.map_map]
      refine List.map_congr_left fun x hx => ?_
      have := pm.mem_iff.mp hx
      rw [zip_adr] at this
      obtain ⟨y, _, rfl⟩ := List.mem_map.mp this
      rfl
    have sz : zs.Pairwise fun x y => x.1 ≤ y.1 := by
      rw [ez, List.pairwise_map]
      refine so.imp fun {x y} h => ?_
      exact h
    have lz2 : (zs.map fun x => V.ref x.2).length ≤ sizeLine := by
      rw [List.length_map, pz.length_eq, List.length_zip]
      omega
    refine ⟨.ref _, upd H p (.lst (zs.map fun x => V.ref x.2)), I.laid old hp ⟨lz2, out.toList, n, ?_, ?_⟩, rfl, q p zs pz sz (I.hok.fresh hp)⟩
    · rw [eo, back]
      have := vals_refs (zs.map (·.2))
      rw [List.map_map, List.map_map] at this
      exact this
    · rw [Array.toArray_toList]
      exact hg
/-- sorted(xs, key=min) -/
def tSortMin (K : PySem.W.Frag) (ta : TA) : TE := fun σ H Q => ta σ H fun vs H1 => ∃ x, vs = [x] ∧ rSortMin K x H1 Q
theorem pe_sortMin {p0 p1 p2 : Pos} {ta : TA} (hcalm : X.calm = true) (hg : Gl X "sorted") (hm : X.mg "sorted" = none) (hg2 : Gl X "min") (hm2 : X.mg "min" = none) (ha : PA X [e] ta)
    (h1 : backTo pos (starEach [e] X.env) = (false, eval e X.env) :: backTo pos (starEach [] X.env) := by rfl) (h2 : (backTo pos (starEach [e] X.env)).any (·.1) = false := by rfl) :
    PE X (.Call (.Name "sorted" p0) [e] [⟨some "key", .Name "min" p1, p2⟩] pos) (tSortMin X.K ta) := by
  refine ⟨fun pins s σ H Q I h => ?_⟩
  refine wpAny_Call_Name_kw (ld_blt I hg hm (u := .builtin "sorted") (by decide +kernel) ?_)
  refine PyProof.Rows.callWith_kw (thn (ha.run pos pins s σ H _ I h) fun us s1 ⟨vs, H1, I1, r1, x, ev, q1⟩ => ?_) h1 h2 rfl rfl
  subst ev
  obtain ⟨u, rfl, rv⟩ := vals1 r1
  show wpAny _ _ (evalAll [do let v ← eval (.Name "min" p1) X.env; standAt pos; pure v]) _ _ s1
  refine wpAny_evalAll_cons (wpAny_bind (ld_blt I1 hg2 hm2 (u := .builtin "min") (by decide +kernel) (wpAny_bind (wpAny_standAt (wpAny_pure (wpAny_evalAll_nil ?_))))))
  exact run_sortMin hcalm I1 rv q1
end
end L2

namespace GL
open PySem PySem.Spec PyProof.Rows L2
/-! ### the classes of errors, all together -/
/-! ### what is refused stays refused as things are made -/
section
variable {K : PySem.W.Frag} {er : Str → Addr}
end
/-! ### data whose repr is known to fit -/
/-! ### literals -/
/-- what is new in H' -/
def newH (H H' : Hp) : Hp := fun b => if (H b).isNone then H' b else none
theorem newH_le {H H' : Hp} : Same (newH H H') H' := fun b o e => by
  unfold newH at e
  cases h : H b with
  | none =>
    rw [h] at e
    exact e
  | some x =>
    rw [h] at e
    cases e
theorem newH_of {H H' : Hp} {b : Addr} (h : H b = none) : newH H H' b = H' b := by
  unfold newH
  rw [h]
  rfl
theorem newH_old {H H' : Hp} {b : Addr} {o : HO} (h : H b = some o) : newH H H' b = none := by
  unfold newH
  rw [h]
  rfl
theorem newH_fwd {H H1 H2 : Hp} (s : Same H1 H2) : Same (newH H H1) (newH H H2) := fun b o e => by
  cases h : H b with
  | none =>
    rw [newH_of h] at e ⊢
    exact s b o e
  | some x =>
    rw [newH_old h] at e
    cases e
theorem newH_in {H H1 H2 : Hp} (s : Same H H1) : Same (newH H1 H2) (newH H H2) := fun b o e => by
  cases h : H b with
  | none =>
    rw [newH_of h]
    exact newH_le b o e
  | some x =>
    rw [newH_old (s b x h)] at e
    cases e
/-- the reading of an expression that gives new data; f says which, as the slots are -/
def tD (K : PySem.W.Frag) (ok : L2.St → Prop) (f : L2.St → PyData) : TE := fun σ H Q => ok σ ∧ ∀ v H', Same H H' → Dt K (newH H H') v (f σ) → Q v H'
def tDs (K : PySem.W.Frag) (ok : L2.St → Prop) (f : L2.St → List PyData) : TA := fun σ H Q => ok σ ∧ ∀ vs H', Same H H' → Dts K (newH H H') vs (f σ) → Q vs H'
def Ok0 : L2.St → Prop := fun _ => True
def Ok2 (a b : L2.St → Prop) : L2.St → Prop := fun σ => a σ ∧ b σ
section
variable {X : Cx} {ok ok2 : L2.St → Prop} {f : L2.St → PyData} {fs : L2.St → List PyData} {e : Expr} {es : List Expr} {te : TE}
theorem pd_of (h : PE X e te) (w : ∀ σ H Q, tD X.K ok f σ H Q → te σ H Q) : PE X e (tD X.K ok f) := ⟨fun pins s σ H Q I q => h.run pins s σ H Q I (w _ _ _ q)⟩
theorem pd_c {v : V} {d : PyData} (h : PE X e (tC v)) (w : ∀ H, Dt X.K H v d) : PE X e (tD X.K Ok0 fun _ => d) := pd_of h fun σ H Q q => q.2 v H (Same.refl _) (w _)
theorem pd_int {i : Int} (h : PE X e (tC (.int i))) : PE X e (tD X.K Ok0 fun _ => .int i) := pd_c h fun _ => .int i
theorem pds_nil : PA X [] (tDs X.K Ok0 fun _ => []) := ⟨fun pos pins s σ H Q I q => pa_nil.run pos pins s σ H Q I (q.2 [] H (Same.refl _) .nil)⟩
theorem pds_cons (a : PE X e (tD X.K ok f)) (b : PA X es (tDs X.K ok2 fs)) (hs : starEach (e :: es) X.env = (false, eval e X.env) :: starEach es X.env := by rfl) : PA X (e :: es) (tDs X.K (Ok2 ok ok2) fun σ => f σ :: fs σ) :=
  ⟨fun pos pins s σ H Q I q => (pa_cons a b hs).run pos pins s σ H Q I ⟨q.1.1, fun v H1 s1 d => ⟨q.1.2, fun vs H2 s2 ds => q.2 (v :: vs) H2 (s1.trans s2) (.cons (d.same (newH_fwd s2)) (Dts.same (newH_in s1) _ _ ds))⟩⟩⟩
theorem pd_list {pos : Pos} (h : PA X es (tDs X.K ok fs)) (l : ∀ σ, (fs σ).length ≤ sizeLine) : PE X (.List es pos) (tD X.K ok fun σ => .list (fs σ)) :=
  pd_of (pe_lst h) fun σ H Q q => ⟨q.1, fun vs H1 s1 ds => ⟨by rw [ds.length]; exact l σ, fun p hp => by
    obtain ⟨H2, e2, s2, f2⟩ := gen H1 hp (.lst vs)
    rw [e2]
    exact q.2 _ _ (s1.trans s2) (.lst (by rw [newH_of (s1.free hp)]; exact f2) (Dts.same (newH_fwd s2) _ _ ds))⟩⟩
end
end GL

namespace GL
open PySem PySem.Spec PyProof.Rows L2
section
variable {K : PySem.W.Frag} {er : Str → Addr}
end
/-- n rows of the kind 0 -/
def rows0 (n : Nat) : PyData := .list ((List.range n).map fun i => .list (List.replicate i (.int 0)))
theorem dts_rep {K : PySem.W.Frag} {H : Hp} : ∀ i : Nat, Dts K H (List.replicate i (.int 0)) (List.replicate i (.int 0))
  | 0 => .nil
  | i + 1 => .cons (.int 0) (dts_rep i)
theorem rep_self {α : Type} : ∀ (j : Nat) (x : α), (List.replicate j [x]).flatten = List.replicate j x
  | 0, _ => rfl
  | j + 1, x => by
    rw [List.replicate_succ, List.replicate_succ, List.flatten_cons, rep_self j x]
    rfl
theorem dts_get {K : PySem.W.Frag} {H : Hp} : ∀ {vs : List V} {ds : List PyData}, vs.length = ds.length → (∀ (i : Nat) (v : V) (d : PyData), vs[i]? = some v → ds[i]? = some d → Dt K H v d) → Dts K H vs ds
  | [], [], _, _ => .nil
  | v :: vs, d :: ds, l, h => .cons (h 0 v d rfl rfl) (dts_get (by simpa using l) fun i v d a b => h (i + 1) v d a b)
theorem dt_list {K : PySem.W.Frag} {H : Hp} {v : V} {ds : List PyData} (h : Dt K H v (.list ds)) : ∃ (a : Addr) (xs : List V), v = .ref a ∧ H a = some (.lst xs) ∧ Dts K H xs ds := by
  cases h with
  | lst h1 h2 => exact ⟨_, _, rfl, h1, h2⟩
/-! ### Nice, decided -/
section
variable {K : PySem.W.Frag} {er : Str → Addr} {H : Hp}
end
end GL
namespace GL
open PySem PySem.Spec PyProof.Rows L2
end GL

namespace GL
open PySem PySem.Spec PyProof.Rows L2
def rTupL (K : PySem.W.Frag) : List V → Hp → VK → Prop := fun xs H Q => ∃ p ys, xs = [.ref p] ∧ SqL K H p ys ∧ ∀ l, H l = none → Q (.ref l) (upd H l (.tup ys))
theorem call_tupL {X : Cx} : CallR X (.type "tuple") (rTupL X.K) := fun pins s σ H xs us Q I r ⟨p, ys, e, a, b⟩ => call_tuple_of pins s σ H xs us Q I r ⟨p, ys, e, .inl ⟨a, b⟩⟩
section
variable {K : PySem.W.Frag} {er : Str → Addr} {H : Hp} {k : Int} {c : Addr} {rs : List Addr} {kss : List (List Int)} {z : V} {dz : PyData}
end
end GL

namespace GL
open PySem PySem.Spec PyProof.Rows L2
section
variable {X : Cx} {e : Expr}
end
theorem rows0n_w {m : Nat} (hm : m ≤ 41) {K : PySem.W.Frag} {k : Nat} (σ : L2.St) (H : Hp) (Q : VK) (q : tD K (fun σ => k < σ.length) (fun _ => rows0 m) σ H Q) :
    tLc (iRng1 (tCons (tC (.int ((m : Nat) : Int))) tNil)) (gName k) tYes (tOp rRep (tLst (tCons (tC (.int 0)) tNil)) (tVar k)) [k] σ H Q := by
  refine ⟨_, rfl, by omega, by omega, fun D hD => ?_⟩
  refine lc_objs (walk_nat (n := ((m : Nat) : Int).toNat)) (fun i => .lst (List.replicate i (.int 0))) hD (by rw [sizeLine_eq]; omega) (fun _ _ => trivial) ?_ ?_
  · rintro j x H2 H3 N hj s2 ⟨rfl, rfl⟩ hN
    have lk : k < (wipe σ [k]).length := by
      simpa [wipe] using q.1
    refine gName_by ⟨?_, one_le, fun l hl => ?_⟩
    · simp [wipe]
    · obtain ⟨H4, e4, s4, f4⟩ := gen H3 hl (.lst [.int 0])
      rw [e4]
      refine ⟨_, by rw [List.getElem?_set_self lk], l, _, _, rfl, rfl, f4, by omega, by omega, ?_, fun p hp => ?_⟩
      · rw [sizeLine_eq, List.length_singleton, Int.toNat_natCast]
        omega
      · have e : (List.replicate ((j : Nat) : Int).toNat [V.int 0]).flatten = List.replicate j (V.int 0) := by
          rw [Int.toNat_natCast]
          exact rep_self j (V.int 0)
        rw [e]
        obtain ⟨H5, e5, s5, f5⟩ := gen H4 hp (.lst (List.replicate j (V.int 0)))
        rw [e5]
        exact hN H5 p (s4.trans s5) (s4.free hp) f5
  · intro H' rs s1 o
    rw [Int.toNat_natCast] at o
    refine q.2 (.ref D) H' s1 (.lst (by rw [newH_of hD]; exact o.top) (dts_get (by rw [List.length_map, o.len, List.length_map, List.length_range]) fun i v d a b => ?_))
    rw [List.getElem?_map] at a b
    cases er : rs[i]? with
    | none =>
      rw [er] at a
      cases a
    | some r =>
      rw [er] at a
      cases a
      have il : i < m := by
        have := (List.getElem?_eq_some_iff.mp er).1
        rw [o.len] at this
        exact this
      rw [List.getElem?_range il] at b
      cases b
      exact .lst (by rw [newH_of (o.new r (List.mem_of_getElem? er))]; exact o.row i r er) (dts_rep i)
theorem tab_of {K : PySem.W.Frag} {H : Hp} {v : V} {k : Int} {kss : List (List Int)} (f : Fine k kss) (h : Dt K H v (tabP kss)) : ∃ c rs, v = .ref c ∧ Tab H c rs kss := by
  obtain ⟨c, xs, rfl, hc, dx⟩ := dt_list h
  have rows : ∀ {xs : List V} {ls : List (List Int)}, Dts K H xs (ls.map rowP) → ∃ rs : List Addr, xs = rs.map V.ref ∧ rs.length = ls.length ∧ ∀ (i : Nat) (r : Addr) (ks : List Int), rs[i]? = some r → ls[i]? = some ks → H r = some (.lst (ks.map V.int)) := by
    intro xs ls
    induction ls generalizing xs with
    | nil =>
      intro d
      cases d
      exact ⟨[], rfl, rfl, fun i r ks e => by simp at e⟩
    | cons l ls ih =>
      intro d
      cases d with
      | cons d1 d2 =>
        obtain ⟨rs, rfl, e1, e2⟩ := ih d2
        obtain ⟨r, ys, rfl, hr, dy⟩ := dt_list d1
        have ey : ys = l.map V.int := by
          clear hr d1 e1 e2 hc h dx
          induction l generalizing ys with
          | nil => cases dy; rfl
          | cons z l ihl =>
            cases dy with
            | cons d3 d4 =>
              cases d3
              rw [ihl _ d4]
              rfl
        subst ey
        refine ⟨r :: rs, rfl, by rw [List.length_cons, List.length_cons, e1], fun i r' ks a b => ?_⟩
        match i, a, b with
        | 0, a, b => cases a; cases b; exact hr
        | i + 1, a, b => exact e2 i r' ks a b
  obtain ⟨rs, rfl, e1, e2⟩ := rows dx
  exact ⟨c, rs, rfl, Tab.made f e1 hc e2⟩
mutual
/-- no dict within -/
def flatP : PyData → Bool
  | .none => true
  | .bool _ => true
  | .int _ => true
  | .str _ => true
  | .list ds => flatPA ds
  | .tuple ds => flatPA ds
  | _ => false
def flatPA : List PyData → Bool
  | [] => true
  | d :: ds => flatP d && flatPA ds
end
mutual
theorem dt_dp {K : PySem.W.Frag} {H : Hp} : ∀ (d : PyData) (v : V), flatP d = true → Dt K H v d → Dp K H v d
  | .none, _, _, h => by cases h; exact .non
  | .bool b, _, _, h => by cases h; exact .bl b
  | .int i, _, _, h => by cases h; exact .int i
  | .str x, _, _, h => by cases h; exact .str x
  | .list ds, _, p, h => by
    simp only [flatP] at p
    cases h with
    | lst e a => exact .lst (SqL.of e) (dts_dp ds _ p a)
  | .tuple ds, _, p, h => by
    simp only [flatP] at p
    cases h with
    | tup e a => exact .tup (SqT.of e) (dts_dp ds _ p a)
  | .dict _, _, p, _ => by simp [flatP] at p
theorem dts_dp {K : PySem.W.Frag} {H : Hp} : ∀ (ds : List PyData) (vs : List V), flatPA ds = true → Dts K H vs ds → DpAll K H vs ds
  | [], _, _, h => by cases h; exact .nil
  | d :: ds, _, p, h => by
    simp only [flatPA, Bool.and_eq_true] at p
    cases h with
    | cons a b => exact .cons (dt_dp d _ p.1 a) (dts_dp ds _ p.2 b)
end
end GL

/-! Rules: sorted of any alike data, len(set(xs)), x in a tuple, math.comb, combinations of a list. -/
namespace GL
open PySem PySem.Spec PyProof.Rows L2
/-! ### sorted -/
def rSortD (K : PySem.W.Frag) : List V → Hp → VK → Prop := fun vs H Q => ∃ (a : Addr) (bs : List (V × PyData)), vs = [.ref a] ∧ SqL K H a (bs.map (·.1)) ∧ (∀ b ∈ bs, Dp K H b.1 b.2) ∧ PySem.W.AllAlike (bs.map (·.2)) ∧ PySem.W.Sortable (bs.map (·.2)) ∧ (∀ b ∈ bs, b.2.depth ≤ 40) ∧
  ∀ p, H p = none → Q (.ref p) (upd H p (.lst ((bs.mergeSort (PySem.W.dataLe false (·.2))).map (·.1))))
theorem eachV {bs : List (V × PyData)} : ∀ {its : List Value}, Vals (bs.map (·.1)) its → PySem.W.EachIs (fun v (b : V × PyData) => RelV b.1 v) its bs := by
  induction bs with
  | nil =>
    intro its h
    cases h
    exact .nil
  | cons t ts ih =>
    intro its h
    cases h with
    | cons r h => exact .cons r (ih h)
theorem valsE {bs : List (V × PyData)} : ∀ {its : List Value}, PySem.W.EachIs (fun v (b : V × PyData) => RelV b.1 v) its bs → Vals (bs.map (·.1)) its := by
  induction bs with
  | nil =>
    intro its h
    cases h
    exact .nil
  | cons t ts ih =>
    intro its h
    cases h with
    | cons r h => exact .cons r (ih h)
theorem each_with {R : Value → V × PyData → Prop} {bs : List (V × PyData)} : ∀ {its : List Value}, PySem.W.EachIs (fun v (b : V × PyData) => RelV b.1 v) its bs → (∀ t ∈ bs, ∀ u, RelV t.1 u → R u t) → PySem.W.EachIs R its bs := by
  induction bs with
  | nil =>
    intro its h _
    cases h
    exact .nil
  | cons t ts ih =>
    intro its h q
    cases h with
    | cons r h => exact .cons (q t (List.mem_cons_self ..) _ r) (ih h fun t' ht => q t' (List.mem_cons_of_mem _ ht))
section
variable {X : Cx}
theorem cr_sortedD (hu : X.A.units + 64 < cLine) : CallR X (.builtin "sorted") (rSortD X.K) := by
  intro pins s σ H vs us Q I r h
  obtain ⟨a, bs, rfl, hs, hd, al, so, de, q⟩ := h
  obtain ⟨its, rv, hl, hz⟩ := I.list hs
  obtain ⟨u, rfl, ru⟩ := vals1 r
  obtain rfl : u = Value.ref a := ru
  have e := eachV rv
  refine PySem.W.sorted_data (enc := fun b : V × PyData => b.2) (R := fun v b => RelV b.1 v) hl.isList e (each_with e fun t ht u ru => Dp.reads I _ _ _ (hd t ht) ru) al so (by rw [← List.length_map (as := bs) (f := fun b => b.1)]; exact hz) (fun b hb => ?_) fun out ho eo => ?_
  · have := de b hb
    omega
  · obtain ⟨c, hc⟩ := sortedAll_at s.heap its out.toArray
    refine ⟨.ref (s.heap.objs.size + 1), upd H (s.heap.objs.size + 1) _, I.laid (t' := s.toks) (o := .lst ((bs.mergeSort (PySem.W.dataLe false (·.2))).map (·.1))) (fun b o q => sortedAll_old q) (Nat.le_succ _) ⟨?_, out, c, valsE eo, hc⟩, rfl, q _ (I.hok.fresh (Nat.le_succ _))⟩
    rw [List.length_map, (List.mergeSort_perm bs _).length_eq, ← List.length_map (as := bs) (f := fun b => b.1)]
    exact hz
end
/-! ### len(set(xs)) -/
/-! ### x in a tuple -/
section
variable {X : Cx}
end
/-! ### math.comb of fewer things than are asked -/
end GL

/-! shuffles that swap two: their cycles, their parity -/
namespace GL
open PySem PySem.Spec PyProof.Rows
open L2 hiding spCell
/-- a while that runs N times, with what holds ahead of each turn -/
def WS (N : Nat) (S : Nat → L2.St → Hp → Prop) : Nat → L2.St → Hp → Prop := fun m σ H => ∃ i, m = N - i ∧ i ≤ N ∧ S i σ H
theorem ws_next {N i : Nat} {S : Nat → L2.St → Hp → Prop} (h : i < N) : ∀ σ' H', S (i + 1) σ' H' → ∃ m', m' < N - i ∧ WS N S m' σ' H' := fun σ' H' s => ⟨N - (i + 1), by omega, i + 1, rfl, h, s⟩
theorem while_ws {c : TT} {tb : TS} {D : Ends} {σ : L2.St} {H : Hp} (N : Nat) (S : Nat → L2.St → Hp → Prop) (h0 : S 0 σ H)
    (step : ∀ i σ H, i < N → S i σ H → c σ H fun b H1 => if b = true then ∃ Nx : L2.St → Hp → Prop, (∀ σ' H', Nx σ' H' → ∃ m', m' < N - i ∧ WS N S m' σ' H') ∧ tb { D with nx := Nx, ct := Nx, bk := D.nx } σ H1 else D.nx σ H1)
    (done : ∀ σ H, S N σ H → c σ H fun b H1 => if b = true then ∃ Nx : L2.St → Hp → Prop, (∀ σ' H', Nx σ' H' → ∃ m', m' < N - N ∧ WS N S m' σ' H') ∧ tb { D with nx := Nx, ct := Nx, bk := D.nx } σ H1 else D.nx σ H1) : tWhile c tb D σ H := by
  refine ⟨WS N S, ⟨N, 0, rfl, Nat.zero_le _, h0⟩, ?_⟩
  rintro m σ H ⟨i, rfl, hi, s⟩
  by_cases h : i < N
  · exact step i σ H h s
  · have e : i = N := by omega
    subst e
    exact done σ H s
/-! ### lots by size -/
end GL

namespace GL
open PySem PySem.Spec PyProof.Rows
open L2 hiding spCell
end GL
namespace GL
open PySem PySem.Spec PyProof.Rows
open L2 hiding spCell
theorem cut_from (xs : List V) (i : Nat) : cutV xs (some ((i : Nat) : Int)) none = xs.drop i := by
  unfold cutV
  rw [HT.sIx_none, HT.sIx_nat]
  by_cases h : i ≤ xs.length
  · rw [Nat.min_eq_left h]
    exact List.take_of_length_le (by rw [List.length_drop]; exact Nat.le_refl _)
  · rw [Nat.min_eq_right (by omega), List.drop_of_length_le (i := i) (by omega), List.drop_of_length_le (Nat.le_refl _)]
    simp
theorem cut_upto (xs : List V) (i : Nat) : cutV xs none (some ((i : Nat) : Int)) = xs.take i := by
  unfold cutV
  rw [HT.sIx_none, HT.sIx_nat]
  by_cases h : i ≤ xs.length
  · rw [Nat.min_eq_left h]
    rfl
  · rw [Nat.min_eq_right (by omega), List.take_of_length_le (l := xs) (i := i) (by omega)]
    exact List.take_of_length_le (by rw [List.length_drop]; omega)
theorem natV_drop (l : List Nat) (i : Nat) : (natV l).drop i = natV (l.drop i) := by
  unfold natV
  rw [List.map_drop]
theorem natV_take (l : List Nat) (i : Nat) : (natV l).take i = natV (l.take i) := by
  unfold natV
  rw [List.map_take]
end GL

/-! combinations of a list of any numbers: f i = the number at place i -/
namespace Cml
open PySem PySem.Spec PyProof.Rows L2 Cmb
/-- the pool: the numbers below n -/
def IsPool (h : Heap) (f : Nat → Int) (p : Addr) (n : Nat) : Prop := ∃ acc, h.get? p = some { cls := .type "tuple", dict := none, data := .seq acc, slots := #[] } ∧ ItemsOf (fun i v => ∃ t, v = Value.int (f i) t) acc n
section
variable {f : Nat → Int} {prog : Program} {w : World} {A : Around} {E : Value → Shared → Prop} {s : Shared}
theorem pick_at {p : Addr} {n : Nat} {idx : List Nat} {Q : Value → Shared → Prop} (hp : IsPool s.heap f p n) (hb : ∀ j ∈ idx, j < n) (hl : idx.length ≤ 1000)
    (h : ∀ us : List Value, us.length = idx.length → (∀ (j k : Nat) , idx[j]? = some k → ∃ t, us[j]? = some (Value.int (f k) t)) → Q (.ref s.heap.objs.size) { s with heap := s.heap.push { cls := .type "tuple", data := .seq us.toArray } }) :
    wpAny (model prog w) A (Builtin.Itertools.itPoolItems (.ref p) >>= fun items => newTuple (idx.map fun i => items.getD i .none)) Q E s := by
  obtain ⟨acc, ho, hs, hi⟩ := hp
  refine wpAny_bind ?_
  unfold Builtin.Itertools.itPoolItems
  refine wpAny_bind (wpAny_seqItems ho rfl ?_)
  refine wpAny_pure ?_
  refine wpAny_newTuple (h _ (List.length_map _) fun j k e => ?_) (by rw [List.length_map]; exact Nat.le_trans hl (by decide))
  have kn := hb k (List.mem_of_getElem? e)
  rw [List.getElem?_map, e]
  have hk : k < acc.size := by rw [hs]; exact kn
  obtain ⟨t, ht⟩ := hi k _ (Array.getElem?_eq_getElem hk)
  refine ⟨t, ?_⟩
  show some (acc.getD k .none) = _
  rw [Array.getD_eq_getD_getElem?, Array.getElem?_eq_getElem hk, ← ht]
  rfl
theorem next_out {it p : Addr} {n : Nat} {last : Value} {idx : List Nat} {Q : Value → Shared → Prop} (hit : IsC s.heap it p 1 last idx) (hp : IsPool s.heap f p n) (hb : ∀ j ∈ idx, j < n) (hl : idx.length ≤ 1000)
    (h : ∀ (h' : Heap) (us : List Value), us.length = idx.length → (∀ (j k : Nat) , idx[j]? = some k → ∃ t, us[j]? = some (Value.int (f k) t)) → IsC h' it p 1 (.ref s.heap.objs.size) idx → h'.get? s.heap.objs.size = some { cls := .type "tuple", data := .seq us.toArray } →
      (∀ b o, b ≠ it → s.heap.get? b = some o → h'.get? b = some o) → Q (.ref s.heap.objs.size) { s with heap := h' }) :
    wpAny (model prog w) A ((Builtin.Itertools.itPoolItems (.ref p) >>= fun items => newTuple (idx.map fun i => items.getD i .none)) >>= fun result => field (.ref it) 2 >>= fun before => setField (.ref it) 2 result >>= fun _ => letGo [before] [result] >>= fun _ => ret result) (fun fin s' => ∃ v, fin = .done (.ret v) ∧ Q v s') E s := by
  refine wpAny_bind (pick_at hp hb hl fun us hu hx => ?_)
  have lt := Heap.lt_size hit
  have hit2 : IsC (s.heap.push { cls := .type "tuple", data := .seq us.toArray }) it p 1 last idx := Heap.get?_push_of_some _ hit
  refine wpAny_bind (field_at (s := { s with heap := s.heap.push { cls := .type "tuple", data := .seq us.toArray } }) hit2 (x := last) rfl ?_)
  refine wpAny_bind (wpAny_setField hit2 rfl (by simp [recC]) ?_)
  refine wpAny_bind (wpAny_letGo (wpAny_pure ⟨_, rfl, h _ us hu hx ?_ ?_ ?_⟩))
  · show ((s.heap.push _).update it _).get? it = _
    rw [Heap.get?_update_self _ hit2 rfl]
    simp [recC, Obj.mapFields]
  · have ne : s.heap.objs.size ≠ it := Nat.ne_of_gt lt
    exact (Heap.SameBut.update ..).2 _ ne |>.trans (Heap.get?_push_size _ rfl)
  · intro b o hb' e
    exact ((Heap.SameBut.update ..).2 _ hb').trans (Heap.get?_push_of_some _ e)
theorem comb_first {it p : Addr} {n : Nat} {last : Value} {idx : List Nat} {Q : Option Value → Shared → Prop} (hit : IsC s.heap it p 0 last idx) (hp : IsPool s.heap f p n) (hb : ∀ j ∈ idx, j < n) (hl : idx.length ≤ 1000)
    (h : ∀ (h' : Heap) (us : List Value), us.length = idx.length → (∀ (j k : Nat) , idx[j]? = some k → ∃ t, us[j]? = some (Value.int (f k) t)) → IsC h' it p 1 (.ref s.heap.objs.size) idx → h'.get? s.heap.objs.size = some { cls := .type "tuple", data := .seq us.toArray } →
      (∀ b o, b ≠ it → s.heap.get? b = some o → h'.get? b = some o) → Q (some (.ref s.heap.objs.size)) { s with heap := h' }) :
    wpAny (model prog w) A (callSpecial? (.ref it) "__next__") Q E s := by
  have hT : s.TypeIs (.ref it) "itertools.combinations" := ⟨_, hit, rfl⟩
  refine wpAny_callSpecial?_slot (name := Str.ofString "__next__") hT slot_c_next (wpAny_call_entry slot_c_next hT entry_c_next ?_ (args_c_next _))
  show wpAny _ _ (field (.ref it) 0 >>= _) _ _ s
  refine wpAny_bind (field_at hit (x := .ref p) rfl ?_)
  show wpAny _ _ (Builtin.Itertools.itNumbersFrom (.ref it) 3 >>= _) _ _ s
  refine wpAny_bind (numbers_at hit ?_)
  show wpAny _ _ (Builtin.Itertools.itIntField (.ref it) 1 >>= _) _ _ s
  refine wpAny_bind (state_at hit ?_)
  show wpAny _ _ (setField (.ref it) 1 (rawInt 1) >>= _) _ _ s
  refine wpAny_bind (wpAny_setField hit rfl (by simp [recC]) ?_)
  have sb := Heap.SameBut.update s.heap it (Obj.mapFields fun x => x.setIfInBounds 1 (rawInt 1))
  have hit2 : IsC (s.heap.update it (Obj.mapFields fun x => x.setIfInBounds 1 (rawInt 1))) it p 1 last idx := by
    show (s.heap.update it _).get? it = _
    rw [Heap.get?_update_self _ hit rfl]
    simp [recC, Obj.mapFields]
  have pit : p ≠ it := fun z => by
    obtain ⟨acc, ho, _⟩ := hp
    rw [z, hit] at ho
    exact absurd (Value.type.inj (congrArg Obj.cls (Option.some.inj ho))) (by decide)
  have hp2 : IsPool (s.heap.update it (Obj.mapFields fun x => x.setIfInBounds 1 (rawInt 1))) f p n := by
    obtain ⟨acc, ho, r⟩ := hp
    exact ⟨acc, (sb.2 p pit).trans ho, r⟩
  refine next_out (s := { s with heap := s.heap.update it (Obj.mapFields fun x => x.setIfInBounds 1 (rawInt 1)) }) hit2 hp2 hb hl fun h' us hu hx hi ht hk => ?_
  have e : (s.heap.update it (Obj.mapFields fun x => x.setIfInBounds 1 (rawInt 1))).objs.size = s.heap.objs.size := sb.1
  rw [e] at hi ht ⊢
  exact h h' us hu hx hi ht fun b o hb e => hk b o hb ((sb.2 b hb).trans e)
theorem comb_more {it p : Addr} {n : Nat} {last : Value} {idx nx : List Nat} {Q : Option Value → Shared → Prop} (hit : IsC s.heap it p 1 last idx) (hp : IsPool s.heap f p n) (hn : nextC n idx = some nx) (hb : ∀ j ∈ nx, j < n) (hl : nx.length ≤ 1000)
    (h : ∀ (h' : Heap) (us : List Value), us.length = nx.length → (∀ (j k : Nat) , nx[j]? = some k → ∃ t, us[j]? = some (Value.int (f k) t)) → IsC h' it p 1 (.ref s.heap.objs.size) nx → h'.get? s.heap.objs.size = some { cls := .type "tuple", data := .seq us.toArray } →
      (∀ b o, b ≠ it → s.heap.get? b = some o → h'.get? b = some o) → Q (some (.ref s.heap.objs.size)) { s with heap := h' }) :
    wpAny (model prog w) A (callSpecial? (.ref it) "__next__") Q E s := by
  have hT : s.TypeIs (.ref it) "itertools.combinations" := ⟨_, hit, rfl⟩
  refine wpAny_callSpecial?_slot (name := Str.ofString "__next__") hT slot_c_next (wpAny_call_entry slot_c_next hT entry_c_next ?_ (args_c_next _))
  show wpAny _ _ (field (.ref it) 0 >>= _) _ _ s
  refine wpAny_bind (field_at hit (x := .ref p) rfl ?_)
  show wpAny _ _ (Builtin.Itertools.itNumbersFrom (.ref it) 3 >>= _) _ _ s
  refine wpAny_bind (numbers_at hit ?_)
  show wpAny _ _ (Builtin.Itertools.itIntField (.ref it) 1 >>= _) _ _ s
  refine wpAny_bind (state_at hit ?_)
  show wpAny _ _ (Builtin.Itertools.itPoolItems (.ref p) >>= _) _ _ s
  obtain ⟨acc, ho, hs, hi⟩ := id hp
  refine wpAny_bind ?_
  unfold Builtin.Itertools.itPoolItems
  refine wpAny_bind (wpAny_seqItems ho rfl ?_)
  refine wpAny_pure ?_
  show wpAny _ _ (match nextC acc.size idx with | some next => _ | none => _) _ _ s
  rw [hs, hn]
  show wpAny _ _ (Builtin.Itertools.itSetNumbersFrom (.ref it) 3 nx >>= _) _ _ s
  refine wpAny_bind ?_
  unfold Builtin.Itertools.itSetNumbersFrom
  refine wpAny_updateFields hit rfl ?_ ?_
  · have sb := Heap.SameBut.update s.heap it (Obj.mapFields fun fs => fs.extract 0 3 ++ (nx.map fun (n : Nat) => rawInt n).toArray)
    have hit2 : IsC (s.heap.update it (Obj.mapFields fun fs => fs.extract 0 3 ++ (nx.map fun (n : Nat) => rawInt n).toArray)) it p 1 last nx := by
      show (s.heap.update it _).get? it = _
      rw [Heap.get?_update_self _ hit rfl]
      simp [recC, Obj.mapFields]
    have pit : p ≠ it := fun z => by
      rw [z, hit] at ho
      exact absurd (Value.type.inj (congrArg Obj.cls (Option.some.inj ho))) (by decide)
    have hp2 : IsPool (s.heap.update it (Obj.mapFields fun fs => fs.extract 0 3 ++ (nx.map fun (n : Nat) => rawInt n).toArray)) f p n := ⟨acc, (sb.2 p pit).trans ho, hs, hi⟩
    refine next_out (s := { s with heap := s.heap.update it (Obj.mapFields fun fs => fs.extract 0 3 ++ (nx.map fun (n : Nat) => rawInt n).toArray) }) hit2 hp2 hb hl fun h' us hu hx hi ht hk => ?_
    have e : (s.heap.update it (Obj.mapFields fun fs => fs.extract 0 3 ++ (nx.map fun (n : Nat) => rawInt n).toArray)).objs.size = s.heap.objs.size := sb.1
    rw [e] at hi ht ⊢
    exact h h' us hu hx hi ht fun b o hb e => hk b o hb ((sb.2 b hb).trans e)
  · have a : ((recC p 1 last idx).extract 0 3 ++ (nx.map fun (n : Nat) => rawInt n).toArray).size ≤ 3 + 1000 := by
      rw [Array.size_append, Array.size_extract, List.size_toArray, List.size_toArray, List.length_map]
      omega
    exact Nat.le_trans a (by rw [sizeLine_eq]; decide)
theorem comb_end {it p : Addr} {n : Nat} {st : Int} {last : Value} {idx : List Nat} {Q : Option Value → Shared → Prop} (hh : A.handled = none) (hit : IsC s.heap it p st last idx) (hp : IsPool s.heap f p n) (hs : st = 2 ∨ (st = 1 ∧ nextC n idx = none))
    (hQ : ∀ e h', CpRep.StopE e h' → Heap.ExtBut it s.heap h' → E e { s with heap := h' }) : wpAny (model prog w) A (callSpecial? (.ref it) "__next__") Q E s := by
  have hT : s.TypeIs (.ref it) "itertools.combinations" := ⟨_, hit, rfl⟩
  refine wpAny_callSpecial?_slot (name := Str.ofString "__next__") hT slot_c_next (wpAny_call_entry slot_c_next hT entry_c_next ?_ (args_c_next _))
  show wpAny _ _ (field (.ref it) 0 >>= _) _ _ s
  refine wpAny_bind (field_at hit (x := .ref p) rfl ?_)
  show wpAny _ _ (Builtin.Itertools.itNumbersFrom (.ref it) 3 >>= _) _ _ s
  refine wpAny_bind (numbers_at hit ?_)
  show wpAny _ _ (Builtin.Itertools.itIntField (.ref it) 1 >>= _) _ _ s
  refine wpAny_bind (state_at hit ?_)
  have stop : ∀ {h0 : Heap}, Heap.ExtBut it s.heap h0 → wpAny (model prog w) A.in1 (Builtin.Itertools.itStop : Sem Fin) (fun fin s' => ∃ v, fin = .done (.ret v) ∧ Q (some v) s') E { s with heap := h0 } := fun {h0} eb => by
    unfold Builtin.Itertools.itStop
    show wpAny _ _ (newExc (.type "StopIteration") [] >>= _) _ _ _
    refine wpAny_bind ?_
    simp only [newExc, newTuple]
    refine wpAny_bind (wpAny_newObj_type ?_ (by size_fits))
    refine wpAny_bind (m := firstArgMember _ _) (wpAny_of_eq (a := Value.none) (by first | rfl | (simp only [firstArgMember]; rfl)) ?_)
    refine wpAny_newObj_type ?_ (by size_fits)
    simp only [raiseNew]
    refine wpAny_bind (wpAny_handled ?_)
    first | rw [show A.in1.handled = none from hh] | rw [hh]
    refine wpAny_bind (wpAny_pure (wpAny_throw ?_))
    exact hQ _ _ ⟨_, _, _, rfl, Heap.get?_push_size _ rfl, rfl, rfl, rfl⟩ ((eb.push _).push _)
  rcases hs with rfl | ⟨rfl, hn⟩
  · show wpAny _ _ (PySem.rule "itertools.combinations.ended" >>= _) _ _ s
    exact wpAny_bind (wpAny_rule (stop (Heap.ExtBut.refl it s.heap)))
  · show wpAny _ _ (Builtin.Itertools.itPoolItems (.ref p) >>= _) _ _ s
    obtain ⟨acc, ho, hs, hi⟩ := id hp
    refine wpAny_bind ?_
    unfold Builtin.Itertools.itPoolItems
    refine wpAny_bind (wpAny_seqItems ho rfl ?_)
    refine wpAny_pure ?_
    show wpAny _ _ (match nextC acc.size idx with | some next => _ | none => _) _ _ s
    rw [hs, hn]
    show wpAny _ _ (setField (.ref it) 1 (rawInt 2) >>= _) _ _ s
    refine wpAny_bind (wpAny_setField hit rfl (by simp [recC]) ?_)
    exact stop (Heap.SameBut.update ..).extBut
theorem iter_self {it p : Addr} {st : Int} {last : Value} {idx : List Nat} {Q : Value → Shared → Prop} (hit : IsC s.heap it p st last idx) (h : Q (.ref it) s) : wpAny (model prog w) A (pyIter (.ref it)) Q E s := by
  have hT : s.TypeIs (.ref it) "itertools.combinations" := ⟨_, hit, rfl⟩
  refine wpAny_pyIter_slot hT slot_c_iter (wpAny_call_entry slot_c_iter hT entry_c_iter ?_ (args_c_iter _))
  show wpAny _ _ (ret (.ref it)) _ _ s
  exact wpAny_pure ⟨_, rfl, "itertools.combinations", _, hT, slot_c_next.lookup, h⟩
theorem next_of {it : Addr} {Q : Option Value → Shared → Prop} (h : wpAny (model prog w) A (callSpecial? (.ref it) "__next__") (fun r s' => r.isSome = true ∧ Q r s') (fun e s' => CpRep.StopE e s'.heap ∧ Q none s') s) : wpAny (model prog w) A (pyNext (.ref it)) Q E s := by
  unfold pyNext
  refine wpAny_bind (wpAny_attempt (wpAny_mono h (fun r s' q => ?_) fun e s' q => ?_))
  · cases r with
    | none => cases q.1
    | some v => exact wpAny_pure q.2
  · obtain ⟨⟨a, o, vs, rfl, ho, hc, hd, _⟩, q⟩ := q
    refine wpAny_bind (wpAny_isInstance (T := "StopIteration") (b := true) ⟨o, ho, hc⟩ isSubtype_stop ?_)
    exact wpAny_pure q
end

def natT (f : Nat → Int) (l : List Nat) : List V := l.map fun (j : Nat) => V.int (f j)
/-- one choice after the other, each a new tuple -/
def YC (f : Nat → Int) (n r : Nat) (i : Nat) (H : Hp) (x : V) (H' : Hp) : Prop := ∃ (T : Addr) (l : List Nat), x = .ref T ∧ H T = none ∧ (choices n r)[i]? = some l ∧ H' = upd H T (.tup (natT f l))
def Itcb (f : Nat → Int) (n r : Nat) : It := ⟨fun i _ => i < (choices n r).length, YC f n r, fun i _ => (choices n r).length ≤ i⟩
/-- the iterator's state ahead of turn i -/
def St (f : Nat → Int) (n r : Nat) (it p : Addr) (i : Nat) (h : Heap) : Prop := p ≠ it ∧ IsPool h f p n ∧ match i with
  | 0 => ∃ last, IsC h it p (if r > n then 2 else 0) last (List.range r)
  | i + 1 => ∃ last l, (choices n r)[i]? = some l ∧ IsC h it p 1 last l
theorem turn_comb {P : Program} {w : World} {K : PySem.W.Frag} {tg : Expr} (f : Nat → Int) (it p : Addr) (n r : Nat) (r1000 : r ≤ 1000) : Turn P w K tg (Itcb f n r) [it, p] it (St f n r it p) where
  mem := by simp
  obj := fun i h st b hb => by
    obtain ⟨ne, ⟨acc, hp, _⟩, hi⟩ := st
    have e' : b = it ∨ b = p := by simpa using hb
    rcases e' with z | z
    · rw [z]
      cases i with
      | zero => obtain ⟨last, hi⟩ := hi; exact ⟨_, hi, fun v q => nomatch (show Data.fields _ = Data.cell v from q)⟩
      | succ i => obtain ⟨last, l, _, hi⟩ := hi; exact ⟨_, hi, fun v q => nomatch (show Data.fields _ = Data.cell v from q)⟩
    · rw [z]
      exact ⟨_, hp, fun v q => nomatch (show Data.seq _ _ = Data.cell v from q)⟩
  keep := fun i h h' st k => by
    obtain ⟨ne, ⟨acc, hp, hs⟩, hi⟩ := st
    refine ⟨ne, ⟨acc, k p (by simp) _ hp, hs⟩, ?_⟩
    cases i with
    | zero => obtain ⟨last, hi⟩ := hi; exact ⟨last, k it (by simp) _ hi⟩
    | succ i => obtain ⟨last, l, e, hi⟩ := hi; exact ⟨last, l, e, k it (by simp) _ hi⟩
  item := by
    intro X hP hw hK hc i pins s σ H E I hf st hg
    subst hP hw hK
    obtain ⟨ne, pool, hi⟩ := st
    have hil : it < s.heap.objs.size := by
      cases i with
      | zero => obtain ⟨last, hi⟩ := hi; exact Heap.lt_size hi
      | succ i => obtain ⟨last, l, _, hi⟩ := hi; exact Heap.lt_size hi
    have hpl : p < s.heap.objs.size := by
      obtain ⟨acc, hp, _⟩ := pool
      exact Heap.lt_size hp
    have gl : i < (choices n r).length := hg
    obtain ⟨nx, enx⟩ : ∃ nx, (choices n r)[i]? = some nx := ⟨_, List.getElem?_eq_getElem gl⟩
    have low := choices_low (List.mem_of_getElem? enx)
    have len := choices_len (List.mem_of_getElem? enx)
    have fin : ∀ (h' : Heap) (us : List Value), us.length = nx.length → (∀ (j k : Nat) , nx[j]? = some k → ∃ t, us[j]? = some (Value.int (f k) t)) → IsC h' it p 1 (.ref s.heap.objs.size) nx → h'.get? s.heap.objs.size = some { cls := .type "tuple", data := .seq us.toArray } →
        (∀ b o, b ≠ it → s.heap.get? b = some o → h'.get? b = some o) →
        ∃ u, (some (Value.ref s.heap.objs.size)) = some u ∧ wpAny (model X.prog X.w) X.A (letOwnedTupleGo tg (.ref it) u) (fun _ s2 => ∃ x H', Inv X pins σ H' s2 ∧ RelV x u ∧ (Itcb f n r).yld i H x H' ∧ St f n r it p (i + 1) s2.heap ∧ ∀ b ∈ [it, p], H' b = none) E { s with heap := h' } := fun h' us hu hx hi ht hk => by
      have rel : Vals (natT f nx) us := vals_of_at (by unfold natT; rw [List.length_map, hu]) fun j x u e1 e2 => by
        unfold natT at e1
        rw [List.getElem?_map] at e1
        cases e3 : nx[j]? with
        | none => rw [e3] at e1; cases e1
        | some k =>
          rw [e3] at e1
          cases e1
          obtain ⟨t, e4⟩ := hx j k e3
          rw [e4] at e2
          cases e2
          exact ⟨t, rfl⟩
      have new : ObjOk X.prog X.w (upd H s.heap.objs.size (.tup (natT f nx))) h' s.heap.objs.size (.tup (natT f nx)) :=
        ⟨by unfold natT; rw [List.length_map, len]; exact Nat.le_trans r1000 (by decide), us, rel, ⟨_, ht, rfl, _, rfl⟩⟩
      have I1 : Inv X pins σ (upd H s.heap.objs.size (.tup (natT f nx))) { s with heap := h', toks := s.toks } :=
        I.turnedNew (ch := [it, p]) (fun b ob hb q => hk b ob (fun z => hb (by simp [z])) q) hf (Nat.le_refl _) new
      refine ⟨_, rfl, go_of (s := { s with heap := h' }) (n := "itertools.combinations") hi rfl rfl (by decide) ⟨.ref s.heap.objs.size, _, I1, rfl, ⟨_, nx, rfl, I.hok.fresh (Nat.le_refl _), enx, rfl⟩, ⟨ne, ?_, _, nx, enx, hi⟩, fun b hb => ?_⟩⟩
      · obtain ⟨acc, hp, hs⟩ := pool
        exact ⟨acc, hk p _ ne hp, hs⟩
      · have hb' : b < s.heap.objs.size := by
          have e' : b = it ∨ b = p := by simpa using hb
          rcases e' with z | z
          · rw [z]; exact hil
          · rw [z]; exact hpl
        rw [upd_ne (Nat.ne_of_lt hb')]
        exact (hf b hb).1
    refine next_of ?_
    cases i with
    | zero =>
      obtain ⟨last, hi⟩ := hi
      have rn : r ≤ n := by
        rcases Nat.lt_or_ge n r with z | z
        · rw [choices_none z] at gl
          cases gl
        · exact z
      have st0 : (if r > n then (2 : Int) else 0) = 0 := if_neg (by omega)
      rw [st0] at hi
      rw [choices_first rn] at enx
      cases enx
      exact comb_first hi pool low (by rw [len]; exact r1000) fun h' us a b c d e => ⟨rfl, fin h' us a b c d e⟩
    | succ i =>
      obtain ⟨last, l, e, hi⟩ := hi
      have hn := choices_next e
      rw [enx] at hn
      exact comb_more hi pool hn low (by rw [len]; exact r1000) fun h' us a b c d e => ⟨rfl, fin h' us a b c d e⟩
  done := by
    intro X hP hw hK hc i pins s σ H E I hf st hg
    subst hP hw hK
    obtain ⟨ne, pool, hi⟩ := st
    obtain ⟨f0, f1, f2, f3, f4, f5⟩ := hf it (by simp)
    have gl : (choices n r).length ≤ i := hg
    refine next_of ?_
    have fin : ∀ e h', CpRep.StopE e h' → Heap.ExtBut it s.heap h' → CpRep.StopE e h' ∧ ((none : Option Value) = none ∧ Inv X pins σ H { s with heap := h' }) := fun e h' se eb => ⟨se, rfl, I.turned (t' := s.toks) (fun b o hb e => eb b o hb e) f0 f1 f3 f4 f5⟩
    cases i with
    | zero =>
      obtain ⟨last, hi⟩ := hi
      have rn : r > n := by
        rcases Nat.lt_or_ge n r with z | z
        · exact z
        · have := choices_first z
          rw [List.length_eq_zero_iff.mp (Nat.le_zero.mp gl)] at this
          cases this
      exact comb_end (I.ok.hd hc) hi pool (.inl (if_pos rn)) fin
    | succ i =>
      obtain ⟨last, l, e, hi⟩ := hi
      have hn := choices_next e
      rw [List.getElem?_eq_none gl] at hn
      exact comb_end (I.ok.hd hc) hi pool (.inr ⟨rfl, hn⟩) fin
  self := fun A i s Q E st h => by
    obtain ⟨ne, pool, hi⟩ := st
    cases i with
    | zero => obtain ⟨last, hi⟩ := hi; exact iter_self hi h
    | succ i => obtain ⟨last, l, e, hi⟩ := hi; exact iter_self hi h
theorem walk_comb {f : Nat → Int} {n r : Nat} : Walk (Itcb f n r) (choices n r).length (fun _ => True) (YC f n r) := ⟨fun _ _ h _ => h, fun _ _ => Nat.le_refl _, fun _ _ _ _ _ _ y => y⟩
section
variable {f : Nat → Int} {prog : Program} {w : World} {A : Around} {E : Value → Shared → Prop} {s : Shared}
theorem code_c_newL {l : Addr} {vs : List Value} {n r : Nat} {tr : Tok} {Q₁ : Value → Shared → Prop} (hl : s.heap.IsList l vs.toArray) (hn : vs.length = n) (hv : ∀ (j : Nat) (v : Value), vs[j]? = some v → ∃ t, v = Value.int (f j) t) (n1000 : n ≤ 1000) (r1000 : r ≤ 1000)
    (h : ∀ (h1 h' : Heap) (tk : Nat), (∀ b o, s.heap.get? b = some o → h1.get? b = some o) → (∀ b o, h1.get? b = some o → h'.get? b = some o) → IsPool h' f h1.objs.size n → IsC h' (h1.objs.size + 1) h1.objs.size (if r > n then 2 else 0) .none (List.range r) → Q₁ (.ref (h1.objs.size + 1)) { s with heap := h', toks := tk }) :
    codeAny (model prog w) A (.call (.builtin "itertools.combinations.__new__") ⟨[.type "itertools.combinations", .ref l, .int r tr], []⟩) (wants Q₁ E) s := by
  refine codeAny_of_tree ?_
  show wpAny _ A.in1 (do checkBuiltinCall "itertools.combinations.__new__" ⟨[.type "itertools.combinations", .ref l, .int r tr], []⟩; again (.builtin "itertools.combinations.__new__" ⟨[.type "itertools.combinations", .ref l, .int r tr], []⟩)) _ _ s
  refine wpAny_bind (wpAny_of_eq (newCall_c_2 _ _) (wpAny_pure ⟨plainId_quiet plain_c_new _, codeAny_builtin entry_c_new ?_⟩))
  rw [Around.under_plainId plain_c_new _]
  have hd := noDict_c
  unfold Builtin.«itertools.combinations.__new__»
  refine wpAny_bind ?_
  show wpAny _ _ (Builtin.Itertools.itClassAndRest "combinations" ⟨.type "itertools.combinations" :: [.ref l, .int r tr], []⟩ >>= _) _ _ s
  refine wpAny_bind (wpAny_of_eq (class_at _) ?_)
  show wpAny _ _ (Builtin.Itertools.itBindNamed "combinations" ["iterable", "r"] 2 2 [.ref l, .int r tr] [] >>= _) _ _ s
  refine wpAny_bind (wpAny_of_eq (bind_at _ _) ?_)
  show wpAny _ _ (Builtin.Itertools.itSsizeArg (.int r tr) >>= _) _ _ s
  refine wpAny_bind (wpAny_of_eq (ssize_at r1000) ?_)
  show wpAny _ _ (collect (.ref l) >>= _) _ _ s
  refine wpAny_bind (collect_list hl ?_ (by rw [hn, sizeLine_eq]; omega))
  obtain ⟨h', eh⟩ : ∃ h', h' = (s.heap.push (seqObj "list" #[] 0)).update s.heap.objs.size (Obj.mapSeq (· ++ vs.toArray)) := ⟨_, rfl⟩
  have hk : ∀ b o, s.heap.get? b = some o → h'.get? b = some o := fun b o e => by
    rw [eh]
    have nb : b ≠ s.heap.objs.size := fun z => by
      have lt := Heap.lt_size e
      rw [z] at lt
      exact Nat.lt_irrefl _ lt
    exact (Heap.get?_update_other _ _ nb.symm).trans (Heap.get?_push_of_some _ e)
  rw [← eh]
  show wpAny _ _ (if ((r : Int) < 0) then _ else _) _ _ _
  rw [if_neg (by omega)]
  show wpAny _ _ (if Builtin.Itertools.itTooMany (r : Int) = true then _ else _) _ _ _
  have tm : Builtin.Itertools.itTooMany (r : Int) = false := decide_eq_false (by omega)
  rw [if_neg (by rw [tm]; decide)]
  show wpAny _ _ (newTuple vs >>= _) _ _ _
  refine wpAny_bind (wpAny_newTuple ?_ (by rw [hn]; exact Nat.le_trans n1000 (by decide)))
  refine wpAny_pure ?_
  show wpAny _ _ (Builtin.Itertools.itNewRecord (.type "itertools.combinations") ([.ref h'.objs.size, rawInt (if (r : Int).toNat > vs.length then 2 else 0), .none] ++ (List.range (r : Int).toNat).map fun (i : Nat) => rawInt i) >>= _) _ _ _
  refine wpAny_bind ?_
  unfold Builtin.Itertools.itNewRecord
  rw [hn, Int.toNat_natCast, if_pos (by rw [hd]; rfl)]
  have sz1 : (h'.push { cls := .type "tuple", data := .seq vs.toArray }).objs.size = h'.objs.size + 1 := by simp [Heap.push]
  refine wpAny_newObj_type ?_ ?_
  · refine wpAny_pure ?_
    rw [sz1]
    refine h h' _ _ hk (fun b o e => Heap.get?_push_of_some _ (Heap.get?_push_of_some _ e)) ⟨vs.toArray, ?_, ?_⟩ ?_
    · exact Heap.get?_push_of_some _ (Heap.get?_push_size _ rfl)
    · exact ⟨by rw [List.size_toArray]; exact hn, fun j v e => hv j v (by simpa using e)⟩
    · show ((h'.push _).push _).get? (h'.objs.size + 1) = _
      rw [← sz1]
      exact Heap.get?_push_size _ (by rfl)
  · show ((([Value.ref h'.objs.size, rawInt (if r > n then 2 else 0), Value.none] ++ (List.range r).map fun (i : Nat) => rawInt i).toArray).size ≤ sizeLine + 2)
    rw [List.size_toArray, List.length_append, List.length_map, List.length_range, sizeLine_eq]
    show 3 + r ≤ _
    omega
end
section
variable {X : Cx} {tg : Expr}
/-- combinations(xs, r) walked -/
def iCombL (K : PySem.W.Frag) (ta : TA) : TI := fun σ H R => ta σ H fun vs H1 => ∃ (a : Addr) (f : Nat → Int) (n r : Nat), vs = [.ref a, .int r] ∧ SqL K H1 a ((List.range n).map fun (j : Nat) => V.int (f j)) ∧ n ≤ 1000 ∧ r ≤ 1000 ∧ R (Itcb f n r) H1
theorem pi_combL {e e2 : Expr} {ta : TA} {p pos : Pos} {x : Str} (hg : Gl X x) (hm : X.mg x = some (.type "itertools.combinations")) (ha : PA X [e, e2] ta) (hcalm : X.calm = true := by rfl) (hdb : (x == ("__debug__" : Str)) = false := by decide)
    (hs : starEach [e, e2] X.env = [(false, eval e X.env), (false, eval e2 X.env)] := by rfl) (hs2 : starEach [e2] X.env = [(false, eval e2 X.env)] := by rfl) : PI X tg (.Call (.Name x p) [e, e2] [] pos) (iCombL X.K ta) := by
  refine ⟨fun pins s σ H R I h => ?_⟩
  refine Call_ (ld_glob I hg hm (PyProof.Rows.callWith_type1 (thn (ha.run pos pins s σ H _ I h) fun us s1 ⟨vs, H1, I1, r1, q1⟩ => ?_) (by rw [hs, hs2]) (by rw [hs2]; rfl)) hdb)
  obtain ⟨a, f, n, r, ex, hr, n1, r1', q⟩ := q1
  subst ex
  cases r1 with
  | cons ra rr =>
    cases rr with
    | cons rb rr =>
      cases rr
      cases ra
      obtain ⟨t, rfl⟩ := rb
      obtain ⟨its, rv, hl, hz⟩ := I1.list hr
      have hn : its.length = n := by rw [← rv.length, List.length_map, List.length_range]
      have hv : ∀ (j : Nat) (v : Value), its[j]? = some v → ∃ t, v = Value.int (f j) t := fun j v e => by
        have jl : j < n := by
          have := (List.getElem?_eq_some_iff.mp e).1
          omega
        obtain ⟨u, e1, ru⟩ := rv.get (i := j) (x := V.int (f j)) (by rw [List.getElem?_map, List.getElem?_range jl]; rfl)
        rw [e] at e1
        cases e1
        exact ru
      refine callType_codes (Q₁ := fun obj s₁ => s₁.TypeIs obj "itertools.combinations" ∧ wpAny (model X.prog X.w) X.A (pyIter obj) (PIE X pins σ tg R) X.xe s₁) called_c (typeCall_c_2 _ _) F.entry_object_init
        (code_c_newL (A := X.A.in1) hl.isList hn hv n1 r1' fun h1 h' tk k1 k2 pool hc => ⟨⟨_, hc, rfl⟩, ?_⟩) fun obj s₁ h₁ => ?_
      · have I2 : Inv X pins σ H1 { s1 with heap := h1, toks := tk } := I1.kept k1
        have I3 : Inv X pins σ H1 { s1 with heap := h', toks := tk } := I2.kept (t' := tk) k2
        refine iter_self hc ?_
        refine ⟨h1.objs.size + 1, [h1.objs.size + 1, h1.objs.size], _, _, H1, rfl, I3, turn_comb f (h1.objs.size + 1) h1.objs.size n r r1', ⟨(Nat.succ_ne_self _).symm, pool, _, hc⟩, fun b hb => ?_, q⟩
        have e' : b = h1.objs.size + 1 ∨ b = h1.objs.size := by simpa using hb
        have hle : h1.objs.size ≤ b := by
          rcases e' with z | z
          · rw [z]; exact Nat.le_add_right _ _
          · rw [z]; exact Nat.le_refl _
        have f0 := I2.fpOk (H' := H1) hle (I2.hok.fresh hle)
        exact f0
      · exact ⟨h₁.1, F.args_object_init_3 obj _ _, object_init_meets called_c.init.lookup called_c.made (by decide +kernel) X.prog X.w X.A.in1 _ s₁ ⟨h₁.1, rfl, h₁.2⟩⟩
end
end Cml

/-! What the defs on states promise. -/
namespace GL
open PySem PySem.Spec PyProof.Rows
open L2 hiding spCell
section
variable {X : Cx} {tg : Expr}
end
structure Bd (mg : Str → Option Value) : Prop where
  dict : mg "dict" = none
/-! ### data -/
/-! ### promises -/
end GL

/-! The search for a short program: what is found, and the layers. -/
namespace GL
open PySem PySem.Spec PyProof.Rows
open L2 hiding spCell
/-! ### what is found -/
/-! ### elements in a heap -/
theorem hid_le {H : Hp} {D : Addr} : Same (GL.hid H D) H := fun b o e => by
  unfold GL.hid at e
  split at e
  · cases e
  · exact e
end GL

/-! Dicts whose keys are tuples of tuples of whole numbers. -/
namespace GL
open PySem PySem.Spec PyProof.Rows
open L2 hiding spCell
/-! ### keys of any depth in the heap of promises -/
mutual
inductive NK (H : Hp) : V → NestedKey → Prop
  | int (i : Int) : NK H (.int i) (.num i)
  | tup {b : Addr} {ys : List V} {ks : List NestedKey} : H b = some (.tup ys) → NKs H ys ks → NK H (.ref b) (.tup ks)
inductive NKs (H : Hp) : List V → List NestedKey → Prop
  | nil : NKs H [] []
  | cons {y : V} {ys : List V} {k : NestedKey} {ks : List NestedKey} : NK H y k → NKs H ys ks → NKs H (y :: ys) (k :: ks)
end
mutual
theorem NK.is {P : Program} {w : World} {H : Hp} {h : Heap} (ok : HOk P w H h) : ∀ (k : NestedKey) (v : V) (u : Value), NK H v k → RelV v u → NestedIs h k u
  | .none, _, _, x, _ => nomatch x
  | .num i, _, _, x, r => by
    cases x
    obtain ⟨t, rfl⟩ := r
    exact .int i t
  | .text _, _, _, x, _ => nomatch x
  | .tup ks, _, _, x, r => by
    cases x with
    | @tup b ys _ hb hs =>
      cases r
      obtain ⟨_, its, rv, o, h1, h2, n, h3⟩ := (show ObjOk P w H h b (.tup ys) from ok b _ hb)
      exact .tup h1 h2 h3 (by simpa using NKs.is ok ks ys its hs rv)
theorem NKs.is {P : Program} {w : World} {H : Hp} {h : Heap} (ok : HOk P w H h) : ∀ (ks : List NestedKey) (vs : List V) (us : List Value), NKs H vs ks → Vals vs us → NestedAll h ks us
  | [], _, _, x, r => by
    cases x
    cases r
    exact .nil
  | k :: ks, _, _, x, r => by
    cases x with
    | cons a b =>
      cases r with
      | cons r1 r2 => exact .cons (NK.is ok k _ _ a r1) (NKs.is ok ks _ _ b r2)
end
mutual
theorem NK.same {H H' : Hp} (s : Same H H') : ∀ (k : NestedKey) (v : V), NK H v k → NK H' v k
  | .none, _, x => nomatch x
  | .num i, _, x => by
    cases x
    exact .int i
  | .text _, _, x => nomatch x
  | .tup ks, _, x => by
    cases x with
    | tup hb hs => exact .tup (s _ _ hb) (NKs.same s ks _ hs)
theorem NKs.same {H H' : Hp} (s : Same H H') : ∀ (ks : List NestedKey) (vs : List V), NKs H vs ks → NKs H' vs ks
  | [], _, x => by
    cases x
    exact .nil
  | k :: ks, _, x => by
    cases x with
    | cons a b => exact .cons (NK.same s k _ a) (NKs.same s ks _ b)
end
/-! ### such a dict: its entries lie in its own object, the keys' tuples are told apart -/
abbrev NE := NestedKey × Addr × V
def relN (kvs : List NE) (xs : List (NestedKey × Addr × Value)) : Prop := Paired (fun (p : NE) (q : NestedKey × Addr × Value) => p.1 = q.1 ∧ p.2.1 = q.2.1 ∧ RelV p.2.2 q.2.2) kvs xs
def ndO (P : Program) (w : World) (a : Addr) (kvs : List NE) : HO := .ext fun h => kvs.length ≤ sizeLine ∧ (a == sysModules) = false ∧ (kvs.map (·.1)).Nodup ∧ ∃ xs, relN kvs xs ∧
  ∃ o es ep, h.get? a = some o ∧ o.ExactDict ∧ o.data = .dict es ep ∧ es.toList = xs.map (entryOfKey (nestedKind P w))
def keysN (H : Hp) (kvs : List NE) : Prop := ∀ p ∈ kvs, NK H (.ref p.2.1) p.1 ∧ p.1.depth ≤ 8
def valN (kvs : List NE) (k : NestedKey) : Option V := (kvs.find? fun p => decide (p.1 = k)).map (·.2.2)
theorem keysN.same {H H' : Hp} (s : Same H H') {kvs : List NE} (h : keysN H kvs) : keysN H' kvs := fun p hp => ⟨NK.same s _ _ (h p hp).1, (h p hp).2⟩
theorem relN.keys {kvs : List NE} {xs : List (NestedKey × Addr × Value)} (h : relN kvs xs) : xs.map (·.1) = kvs.map (·.1) := by
  induction h with
  | nil => rfl
  | cons a _ ih => rw [List.map_cons, List.map_cons, ih, a.1]
theorem relN.len {kvs : List NE} {xs : List (NestedKey × Addr × Value)} (h : relN kvs xs) : xs.length = kvs.length := by
  induction h with
  | nil => rfl
  | cons _ _ ih => rw [List.length_cons, List.length_cons, ih]
theorem relN.of {kvs : List NE} {xs : List (NestedKey × Addr × Value)} (h : relN kvs xs) {x : NestedKey × Addr × Value} (hx : x ∈ xs) : ∃ p ∈ kvs, p.1 = x.1 ∧ p.2.1 = x.2.1 := by
  induction h with
  | nil => cases hx
  | @cons p q ps qs a _ ih =>
    rcases List.mem_cons.mp hx with rfl | hx2
    · exact ⟨p, List.mem_cons_self .., a.1, a.2.1⟩
    · obtain ⟨p', hp, e⟩ := ih hx2
      exact ⟨p', List.mem_cons_of_mem _ hp, e⟩
theorem relN.val {kvs : List NE} {xs : List (NestedKey × Addr × Value)} (h : relN kvs xs) {k : NestedKey} {v : V} (e : valN kvs k = some v) : ∃ p, atKey xs k = some p ∧ RelV v p.2 := by
  induction h with
  | nil => cases e
  | @cons p q ps qs a _ ih =>
    unfold valN at e
    unfold atKey
    rw [List.find?_cons] at e ⊢
    by_cases c : p.1 = k
    · rw [decide_eq_true c] at e
      rw [decide_eq_true (a.1 ▸ c)]
      cases e
      exact ⟨q.2, rfl, a.2.2⟩
    · rw [decide_eq_false c] at e
      rw [decide_eq_false (a.1 ▸ c)]
      exact ih e
theorem relN.none {kvs : List NE} {xs : List (NestedKey × Addr × Value)} (h : relN kvs xs) {k : NestedKey} (e : k ∉ kvs.map (·.1)) : atKey xs k = none := by
  rw [← h.keys] at e
  unfold atKey
  rw [List.find?_eq_none.mpr]
  · rfl
  · intro x hx z
    exact e (List.mem_map.mpr ⟨x, hx, of_decide_eq_true z⟩)
theorem relN.snoc {kvs : List NE} {xs : List (NestedKey × Addr × Value)} (h : relN kvs xs) {k : NestedKey} {b : Addr} {v : V} {u : Value} (r : RelV v u) : relN (kvs ++ [(k, b, v)]) (xs ++ [(k, b, u)]) := Paired.snoc h ⟨rfl, rfl, r⟩
section
variable {P : Program} {w : World} {H : Hp} {h : Heap} {a : Addr} {kvs : List NE}
theorem nd_of (ok : HOk P w H h) (e : H a = some (ndO P w a kvs)) (kn : keysN H kvs) : kvs.length ≤ sizeLine ∧ (a == sysModules) = false ∧ (kvs.map (·.1)).Nodup ∧ ∃ xs, relN kvs xs ∧ h.DictOfH (nestedKind P w) a xs := by
  obtain ⟨⟨z, hs, nd, xs, rel, o, es, ep, h1, h2, h3, h4⟩, _, _⟩ := (show ObjOk P w H h a (ndO P w a kvs) from ok a _ e)
  refine ⟨z, hs, nd, xs, rel, o, es, ep, h1, h2, h3, h4, fun x hx => ?_, by rw [rel.keys]; exact nd⟩
  obtain ⟨p, hp, e1, e2⟩ := rel.of hx
  obtain ⟨k1, k2⟩ := kn p hp
  rw [e1, e2] at k1
  rw [e1] at k2
  exact ⟨NK.is ok _ _ _ k1 rfl, k2⟩
theorem nd_new (z : kvs.length ≤ sizeLine) (hs : (a == sysModules) = false) (nd : (kvs.map (·.1)).Nodup) {xs : List (NestedKey × Addr × Value)} (rel : relN kvs xs) (d : h.DictOfH (nestedKind P w) a xs) : ObjOk P w H h a (ndO P w a kvs) := by
  obtain ⟨o, es, ep, h1, h2, h3, h4, _, _⟩ := d
  refine ⟨⟨z, hs, nd, xs, rel, o, es, ep, h1, h2, h3, h4⟩, ⟨o, h1⟩, fun g1 g2 f k => ?_⟩
  obtain ⟨z', hs', nd', xs', rel', o', es', ep', h1', h2', h3', h4'⟩ := f
  exact ⟨z', hs', nd', xs', rel', o', es', ep', k _ h1', h2', h3', h4'⟩
theorem nd_empty (h : Heap) (hb : sysModules < h.objs.size) : ObjOk P w H (h.push { cls := .type "dict", data := .dict #[] }) h.objs.size (ndO P w h.objs.size []) :=
  nd_new (Nat.zero_le _) (beq_eq_false_iff_ne.mpr (Ne.symm (Nat.ne_of_lt hb))) List.nodup_nil .nil (Heap.DictOfH.new h)
end
/-! ### d[k], d[k] = v of a comprehension -/
section
variable {X : Cx} {pins : List (Addr × Obj)} {σ : L2.St} {H : Hp} {s : Shared} {D b : Addr} {kvs : List NE} {k : NestedKey} {v : V} {u : Value} {E : Value → Shared → Prop}
theorem nd_getItem {Q : Value → Shared → Prop} (hu : X.A.in1.units + 8 < cLine) (I : Inv X pins σ H s) (hD : H D = some (ndO X.prog X.w D kvs)) (kn : keysN H kvs) (hk : NK H (.ref b) k) (d8 : k.depth ≤ 8) (hv : valN kvs k = some v)
    (h : ∀ u' s', Inv X pins σ H s' → RelV v u' → Q u' s') : wpAny (model X.prog X.w) X.A (getItem (.ref D) (.ref b)) Q E s := by
  obtain ⟨z, hs, nd, xs, rel, dd⟩ := nd_of I.hok hD kn
  obtain ⟨p, hp, rp⟩ := rel.val hv
  exact wpAny_getItem_heap (knd := nestedKind X.prog X.w) hu ⟨NK.is I.hok _ _ _ hk rfl, d8⟩ dd hp (h p.2 _ (I.tok _) rp)
end
/-- d[k], by a key of tuples of tuples -/
def tDGetN (P : Program) (w : World) (td ty : TE) : TE := fun σ H Q => td σ H fun x H1 => ty σ H1 fun y H2 => ∃ (a b : Addr) (kvs : List NE) (k : NestedKey) (v : V), x = .ref a ∧ y = .ref b ∧ H2 a = some (ndO P w a kvs) ∧ keysN H2 kvs ∧ NK H2 (.ref b) k ∧ k.depth ≤ 8 ∧ valN kvs k = some v ∧ Q v H2
theorem pe_dgetN {X : Cx} {o i : Expr} {pos : Pos} {td ty : TE} (hu : X.A.in1.units + 8 < cLine) (ho : PE X o td) (hi : PE X i ty) (hs : NoSl i) : PE X (.Subscript o i pos) (tDGetN X.prog X.w td ty) := by
  refine ⟨fun pins s σ H Q I h => ?_⟩
  refine subD_of PySem.F.slot_dict_getitem.lookup hs (thn (ho.run pins s σ H _ I h) fun u s1 ⟨x, H1, I1, rx, q1⟩ => thn (hi.run pins s1 σ H1 _ I1 q1) fun iv s2 ⟨y, H2, I2, ry, a, b, kvs, k, v, ex, ey, hD, kn, hk, d8, hv, q2⟩ => ?_)
  subst ex ey
  obtain rfl : u = Value.ref a := rx
  obtain rfl : iv = Value.ref b := ry
  obtain ⟨_, _, _, xs, _, dd⟩ := nd_of I2.hok hD kn
  exact ⟨dd.typeIs, nd_getItem hu I2 hD kn hk d8 hv fun w' s3 I3 rw' => ⟨v, H2, I3, rw', q2⟩⟩
end GL

/-! name = {..} with keys of tuples of tuples; what is done with it. -/
namespace GL
open PySem PySem.Spec PyProof.Rows
open L2 hiding spCell
section
variable {X : Cx}
theorem pe_dgetN65 {o i : Expr} {pos : Pos} {td ty : TE} (hu : X.A.units + 65 < cLine) (ho : PE X o td) (hi : PE X i ty) (hs : NoSl i) : PE X (.Subscript o i pos) (tDGetN X.prog X.w td ty) :=
  pe_dgetN (by show X.A.units + 1 + 8 < cLine; omega) ho hi hs
end
end GL

/-! Leagues as tables: turns, how far they are from one another, the road. -/
namespace GL
open PySem PySem.Spec PyProof.Rows
open L2 hiding spCell
def wonN (kss : List (List Int)) (i j : Nat) : Bool := decide (i < kss.length ∧ j < kss.length ∧ i ≠ j) && wonB kss i j
section
variable {kss kts : List (List Int)} {a b i j : Nat}
theorem wonN_of (hi : i < kss.length) (hj : j < kss.length) (ne : i ≠ j) : wonN kss i j = wonB kss i j := by
  unfold wonN
  rw [decide_eq_true ⟨hi, hj, ne⟩, Bool.true_and]
theorem wonN_anti (f : Fine 2 kss) : LG.Anti kss.length (wonN kss) := fun i j hi hj ne => by
  rw [wonN_of hj hi (Ne.symm ne), wonN_of hi hj ne]
  exact won_anti f hi hj ne
theorem al_iff (ha : a < kss.length) (hb : b < kss.length) : alikeL kss a b = true ↔ LG.Al kss.length (wonN kss) a b := by
  rw [alikeL_iff]
  constructor
  · intro h m hm ma mb
    rw [wonN_of hm ha ma, wonN_of hm hb mb]
    exact h m hm ma mb
  · intro h m hm ma mb
    have := h m hm ma mb
    rw [wonN_of hm ha ma, wonN_of hm hb mb] at this
    exact this
theorem nx_iff : LG.Nx kss.length (wonN kss) a b ↔ a < kss.length ∧ b < kss.length ∧ a ≠ b ∧ wonB kss a b = true ∧ alikeL kss a b = true := by
  constructor
  · rintro ⟨ha, hb, ne, w, al⟩
    exact ⟨ha, hb, ne, by rw [← wonN_of ha hb ne]; exact w, (al_iff ha hb).mpr al⟩
  · rintro ⟨ha, hb, ne, w, al⟩
    exact ⟨ha, hb, ne, by rw [wonN_of ha hb ne]; exact w, (al_iff ha hb).mp al⟩
theorem next_nx (f : Fine 2 kss) (ha : a < kss.length) : nextP kss a = some b ↔ LG.Nx kss.length (wonN kss) a b := by
  rw [nextP_some f ha, nx_iff]
  exact ⟨fun h => ⟨ha, h⟩, fun h => h.2⟩
theorem won_turned (f : Fine 2 kss) (ab : a < b) (hb : b < kss.length) (h : max i j = b ∧ min i j = a) : wonB (turnK kss a b) i j = !wonB kss i j := by
  have t := tieN_in f (i := a) (j := b) (by omega) hb (by omega)
  have e : tieN (turnK kss a b) i j = 1 - tieN kss i j := by
    unfold turnK
    rw [tie_setT f ab hb, if_pos h]
    unfold tieN
    rw [h.1, h.2, show max a b = b by omega, show min a b = a by omega]
  have t2 : tieN kss i j = tieN kss a b := by
    unfold tieN
    rw [h.1, h.2, show max a b = b by omega, show min a b = a by omega]
  unfold wonB
  rw [e, t2]
  obtain x | x : tieN kss a b = 0 ∨ tieN kss a b = 1 := by omega
  · rw [x]
    by_cases c : j < i
    · rw [if_pos c, if_pos c]; rfl
    · rw [if_neg c, if_neg c]; rfl
  · rw [x]
    by_cases c : j < i
    · rw [if_pos c, if_pos c]; rfl
    · rw [if_neg c, if_neg c]; rfl
theorem wonN_turn (f : Fine 2 kss) (ab : a < b) (hb : b < kss.length) : wonN (turnK kss a b) = LG.turn (wonN kss) a b := by
  funext i j
  by_cases c : (i = a ∧ j = b) ∨ (i = b ∧ j = a)
  · have m : max i j = b ∧ min i j = a := by omega
    have p : i < kss.length ∧ j < kss.length ∧ i ≠ j := by omega
    rw [show LG.turn (wonN kss) a b i j = !wonN kss i j from if_pos c, wonN_of p.1 p.2.1 p.2.2, wonN_of (by rw [turnK_len]; exact p.1) (by rw [turnK_len]; exact p.2.1) p.2.2]
    exact won_turned f ab hb m
  · rw [LG.turn_same c]
    unfold wonN
    rw [turnK_len]
    by_cases p : i < kss.length ∧ j < kss.length ∧ i ≠ j
    · rw [decide_eq_true p, won_turn f ab hb (by omega)]
    · rw [decide_eq_false p, Bool.false_and, Bool.false_and]
/-- where two leagues differ, by their numbers or by who won -/
theorem tie_won (f : Fine 2 kss) (g : Fine 2 kts) (l : kts.length = kss.length) (hi : i < kss.length) (hj : j < kss.length) (ne : i ≠ j) : tieN kss i j ≠ tieN kts i j ↔ wonB kts i j ≠ wonB kss i j := by
  have t := tieN_in f hi hj ne
  have u := tieN_in g (i := i) (j := j) (by omega) (by omega) ne
  unfold wonB
  obtain x | x : tieN kss i j = 0 ∨ tieN kss i j = 1 := by omega
  · obtain y | y : tieN kts i j = 0 ∨ tieN kts i j = 1 := by omega
    · rw [x, y]
      simp
    · rw [x, y]
      by_cases c : j < i
      · rw [if_pos c, if_pos c]; decide
      · rw [if_neg c, if_neg c]; decide
  · obtain y | y : tieN kts i j = 0 ∨ tieN kts i j = 1 := by omega
    · rw [x, y]
      by_cases c : j < i
      · rw [if_pos c, if_pos c]; decide
      · rw [if_neg c, if_neg c]; decide
    · rw [x, y]
      simp
/-! ### how many results are unlike -/
def unl (kss kts : List (List Int)) (c : Nat × Nat) : Bool := decide (tieN kss c.1 c.2 ≠ tieN kts c.1 c.2)
def hamK (kss kts : List (List Int)) : Nat := ((cplTo kss.length kss.length).filter (unl kss kts)).length
theorem filter_one {α : Type} [DecidableEq α] {p q : α → Bool} {c : α} : ∀ {l : List α}, l.Nodup → c ∈ l → p c = true → q c = false → (∀ x ∈ l, x ≠ c → p x = q x) → (l.filter q).length + 1 = (l.filter p).length
  | [], _, h, _, _, _ => nomatch h
  | x :: l, nd, h, hp, hq, e => by
    obtain ⟨n1, n2⟩ := List.nodup_cons.mp nd
    by_cases xc : x = c
    · subst xc
      rw [List.filter_cons_of_pos hp, List.filter_cons_of_neg (by rw [hq]; decide), List.length_cons]
      congr 2
      refine List.filter_congr fun y hy => ?_
      exact (e y (List.mem_cons_of_mem _ hy) (fun z => n1 (z ▸ hy))).symm
    · have ih := filter_one n2 ((List.mem_cons.mp h).resolve_left (Ne.symm xc)) hp hq fun y hy => e y (List.mem_cons_of_mem _ hy)
      have ex := e x (List.mem_cons_self ..) xc
      cases px : p x with
      | true =>
        rw [px] at ex
        rw [List.filter_cons_of_pos px, List.filter_cons_of_pos ex.symm, List.length_cons, List.length_cons, ih]
      | false =>
        rw [px] at ex
        rw [List.filter_cons_of_neg (p := q) (by rw [← ex]; decide), List.filter_cons_of_neg (p := p) (by rw [px]; decide), ih]
theorem lexN_ne {c d : Nat × Nat} (h : lexN c d) : c ≠ d := fun z => by
  subst z
  unfold lexN at h
  omega
theorem cplTo_nodup (n m : Nat) : (cplTo n m).Nodup := (cpl_sorted n m).imp lexN_ne
theorem unl_turn (f : Fine 2 kss) (ab : a < b) (hb : b < kss.length) {c : Nat × Nat} (h : c.1 < c.2) : unl (turnK kss a b) kts c = if c = (a, b) then decide (1 - tieN kss a b ≠ tieN kts a b) else unl kss kts c := by
  unfold unl turnK
  rw [tie_setT f ab hb]
  by_cases e : c = (a, b)
  · subst e
    rw [if_pos ⟨by dsimp only; omega, by dsimp only; omega⟩, if_pos rfl]
  · rw [if_neg (fun z => e (Prod.ext (by omega) (by omega))), if_neg e]
theorem ham_less (f : Fine 2 kss) (g : Fine 2 kts) (l : kts.length = kss.length) (ab : a < b) (hb : b < kss.length) (u : unl kss kts (a, b) = true) : hamK (turnK kss a b) kts + 1 = hamK kss kts := by
  unfold hamK
  rw [turnK_len]
  have t := tieN_in f (i := a) (j := b) (by omega) hb (by omega)
  have v := tieN_in g (i := a) (j := b) (by omega) (by omega) (by omega)
  have u' := of_decide_eq_true u
  dsimp only at u'
  refine filter_one (c := (a, b)) (cplTo_nodup _ _) ((cpl_mem _ _ _ _).mpr ⟨by omega, ab, hb⟩) u ?_ fun x hx ne => ?_
  · rw [unl_turn f ab hb ab, if_pos rfl]
    exact decide_eq_false fun z => by omega
  · obtain ⟨x1, x2⟩ := x
    have := (cpl_mem _ _ _ _).mp hx
    rw [unl_turn f ab hb this.2.1, if_neg ne]
theorem ham_more (f : Fine 2 kss) (g : Fine 2 kts) (l : kts.length = kss.length) (ab : a < b) (hb : b < kss.length) (u : unl kss kts (a, b) = false) : hamK kss kts + 1 = hamK (turnK kss a b) kts := by
  unfold hamK
  rw [turnK_len]
  have u' := of_decide_eq_false u
  dsimp only at u'
  refine filter_one (c := (a, b)) (cplTo_nodup _ _) ((cpl_mem _ _ _ _).mpr ⟨by omega, ab, hb⟩) ?_ u fun x hx ne => ?_
  · rw [unl_turn f ab hb ab, if_pos rfl]
    exact decide_eq_true fun z => by omega
  · obtain ⟨x1, x2⟩ := x
    have := (cpl_mem _ _ _ _).mp hx
    rw [unl_turn f ab hb this.2.1, if_neg ne]
theorem fine_same {k : Int} (f : Fine k kss) (g : Fine k kts) (l : kts.length = kss.length) (h : ∀ i j, j < i → i < kss.length → tieN kss i j = tieN kts i j) : kss = kts := by
  refine List.ext_getElem? fun i => ?_
  by_cases hi : i < kss.length
  · rw [List.getElem?_eq_getElem hi, List.getElem?_eq_getElem (by omega)]
    refine congrArg some ?_
    obtain ⟨l1, _⟩ := f i _ (List.getElem?_eq_getElem hi)
    obtain ⟨l2, _⟩ := g i _ (List.getElem?_eq_getElem (show i < kts.length by omega))
    refine List.ext_getElem (by rw [l1, l2]) fun j h1 h2 => ?_
    have := h i j (by omega) hi
    unfold tieN List.getD at this
    rw [show max i j = i by omega, show min i j = j by omega, List.getElem?_eq_getElem hi, List.getElem?_eq_getElem (show i < kts.length by omega)] at this
    simp only [Option.getD_some, List.getElem?_eq_getElem h1, List.getElem?_eq_getElem h2] at this
    exact this
  · rw [List.getElem?_eq_none (by omega), List.getElem?_eq_none (by omega)]
theorem ham_zero (f : Fine 2 kss) (g : Fine 2 kts) (l : kts.length = kss.length) : hamK kss kts = 0 ↔ kss = kts := by
  constructor
  · intro h
    have h := List.length_eq_zero_iff.mp h
    refine fine_same f g l fun i j ji hi => ?_
    have := List.filter_eq_nil_iff.mp h (j, i) ((cpl_mem _ _ _ _).mpr ⟨by omega, ji, hi⟩)
    rw [tieN_comm kss, tieN_comm kts]
    unfold unl at this
    simpa using this
  · intro e
    subst e
    unfold hamK
    rw [List.length_eq_zero_iff, List.filter_eq_nil_iff]
    intro c _ z
    exact of_decide_eq_true z rfl
/-! ### what turns make -/
inductive JK (kss : List (List Int)) : List (List Int) → Prop
  | refl : JK kss kss
  | step {kts : List (List Int)} {a b : Nat} : JK kss kts → a < b → b < kts.length → alikeL kts a b = true → JK kss (turnK kts a b)
def LikeK (kss kts : List (List Int)) : Prop := LG.Like kss.length (wonN kss) (wonN kts)
theorem JK.len (h : JK kss kts) : kts.length = kss.length := by
  induction h with
  | refl => rfl
  | step _ _ _ _ ih => rw [turnK_len, ih]
theorem JK.fine (f : Fine 2 kss) (h : JK kss kts) : Fine 2 kts := by
  induction h with
  | refl => exact f
  | step _ ab hb _ ih => exact turnK_fine ih ab hb
/-- a turn of a couple who stand alike, whoever won -/
theorem turn_like (f : Fine 2 kss) (ab : a < b) (hb : b < kss.length) (al : alikeL kss a b = true) : LikeK kss (turnK kss a b) := by
  unfold LikeK
  rw [wonN_turn f ab hb]
  cases w : wonB kss a b with
  | true => exact LG.nx_like (wonN_anti f) (nx_iff.mpr ⟨by omega, hb, by omega, w, al⟩)
  | false =>
    rw [LG.turn_comm]
    have w' : wonB kss b a = true := by
      rw [won_anti f (show a < kss.length by omega) hb (by omega), w]
      rfl
    exact LG.nx_like (wonN_anti f) (nx_iff.mpr ⟨hb, by omega, by omega, w', by rw [alikeL_comm]; exact al⟩)
theorem JK.like (f : Fine 2 kss) (h : JK kss kts) : LikeK kss kts := by
  induction h with
  | refl => exact LG.Like.refl
  | @step kts a b h ab hb al ih =>
    have := turn_like (h.fine f) ab hb al
    unfold LikeK at this ih ⊢
    rw [h.len] at this
    exact ih.trans this
/-- of two unlike ones that are alike in their runs, a couple can be turned -/
theorem like_couple (f : Fine 2 kss) (g : Fine 2 kts) (l : kts.length = kss.length) (h : LikeK kss kts) (ne : kss ≠ kts) : ∃ c ∈ cplL kss, unl kss kts c = true := by
  have : ∃ i j, j < i ∧ i < kss.length ∧ tieN kss i j ≠ tieN kts i j := Classical.byContradiction fun z => ne (fine_same f g l fun i j ji hi => Classical.byContradiction fun y => z ⟨i, j, ji, hi, y⟩)
  obtain ⟨i, j, ji, hi, d⟩ := this
  have d := (tie_won f g l hi (by omega) (by omega)).mp d
  rw [← wonN_of (kss := kts) (by omega) (by omega) (by omega), ← wonN_of (kss := kss) hi (by omega) (by omega)] at d
  have B : LG.Anti kss.length (wonN kts) := by
    rw [← l]
    exact wonN_anti g
  obtain ⟨a, b, s, v⟩ := LG.like_next (wonN_anti f) B h hi (show j < kss.length by omega) (by omega) d
  obtain ⟨ha, hb, ab, w, al⟩ := nx_iff.mp s
  have u : tieN kss a b ≠ tieN kts a b := by
    refine (tie_won f g l ha hb ab).mpr ?_
    rw [wonN_of (by omega) (by omega) (Ne.symm ab)] at v
    rw [w, won_anti g (show b < kts.length by omega) (by omega) (Ne.symm ab), v]
    decide
  by_cases c : a < b
  · exact ⟨(a, b), List.mem_filter.mpr ⟨(cpl_mem _ _ _ _).mpr ⟨ha, c, hb⟩, al⟩, decide_eq_true u⟩
  · exact ⟨(b, a), List.mem_filter.mpr ⟨(cpl_mem _ _ _ _).mpr ⟨hb, by omega, ha⟩, by rw [alikeL_comm]; exact al⟩, decide_eq_true (by dsimp only; rw [tieN_comm kss, tieN_comm kts]; exact u)⟩
theorem like_turn (f : Fine 2 kss) (l : kts.length = kss.length) (h : LikeK kss kts) (ab : a < b) (hb : b < kss.length) (al : alikeL kss a b = true) : LikeK (turnK kss a b) kts := by
  have t := turn_like f ab hb al
  unfold LikeK at t h ⊢
  rw [turnK_len]
  exact t.symm.trans h
/-- the first couple, in order, that stands alike and is unlike -/
def firstC (kss kts : List (List Int)) : Option (Nat × Nat) := (cplL kss).find? (unl kss kts)
def roadK : Nat → List (List Int) → List (List Int) → List (Nat × Nat)
  | 0, _, _ => []
  | d + 1, kss, kts => match firstC kss kts with
    | none => []
    | some c => c :: roadK d (turnK kss c.1 c.2) kts
theorem first_in {c : Nat × Nat} (h : firstC kss kts = some c) : c.1 < c.2 ∧ c.2 < kss.length ∧ alikeL kss c.1 c.2 = true ∧ unl kss kts c = true := by
  have m := List.mem_of_find?_eq_some h
  have u := List.find?_some h
  obtain ⟨c1, c2⟩ := c
  obtain ⟨m1, al⟩ := List.mem_filter.mp m
  have := (cpl_mem _ _ _ _).mp m1
  exact ⟨this.2.1, this.2.2, al, u⟩
theorem first_some (f : Fine 2 kss) (g : Fine 2 kts) (l : kts.length = kss.length) (h : LikeK kss kts) (ne : kss ≠ kts) : ∃ c, firstC kss kts = some c := by
  obtain ⟨c, hc, u⟩ := like_couple f g l h ne
  cases e : firstC kss kts with
  | some c => exact ⟨c, rfl⟩
  | none => exact absurd u (List.find?_eq_none.mp e c hc)
theorem road_len : ∀ (d : Nat) {kss : List (List Int)}, Fine 2 kss → Fine 2 kts → kts.length = kss.length → LikeK kss kts → hamK kss kts = d → (roadK d kss kts).length = d
  | 0, _, _, _, _, _, _ => rfl
  | d + 1, kss, f, g, l, h, e => by
    have ne : kss ≠ kts := fun z => by
      rw [(ham_zero f g l).mpr z] at e
      cases e
    obtain ⟨c, hc⟩ := first_some f g l h ne
    obtain ⟨c1, c2, al, u⟩ := first_in hc
    have less := ham_less f g l c1 c2 u
    show (match firstC kss kts with | none => [] | some c => c :: roadK d (turnK kss c.1 c.2) kts).length = d + 1
    rw [hc]
    show (c :: roadK d (turnK kss c.1 c.2) kts).length = d + 1
    rw [List.length_cons, road_len d (turnK_fine f c1 c2) g (by rw [turnK_len]; exact l) (like_turn f l h c1 c2 al) (by omega)]
/-- joined is to have the same runs, and the same between them -/
theorem like_jk : ∀ (d : Nat) {kss : List (List Int)}, Fine 2 kss → Fine 2 kts → kts.length = kss.length → LikeK kss kts → hamK kss kts = d → JK kss kts
  | 0, kss, f, g, l, h, e => by
    rw [(ham_zero f g l).mp e]
    exact .refl
  | d + 1, kss, f, g, l, h, e => by
    have ne : kss ≠ kts := fun z => by
      rw [(ham_zero f g l).mpr z] at e
      cases e
    obtain ⟨c, hc⟩ := first_some f g l h ne
    obtain ⟨c1, c2, al, u⟩ := first_in hc
    have less := ham_less f g l c1 c2 u
    have r := like_jk d (turnK_fine f c1 c2) g (by rw [turnK_len]; exact l) (like_turn f l h c1 c2 al) (by omega)
    have pre : ∀ {kus : List (List Int)}, JK (turnK kss c.1 c.2) kus → JK kss kus := by
      intro kus r
      induction r with
      | refl => exact .step .refl c1 c2 al
      | step _ x y z ih => exact .step ih x y z
    exact pre r
theorem jk_iff (f : Fine 2 kss) (g : Fine 2 kts) (l : kts.length = kss.length) : JK kss kts ↔ LikeK kss kts := ⟨fun h => h.like f, fun h => like_jk _ f g l h rfl⟩
theorem ham_comm (l : kts.length = kss.length) : hamK kss kts = hamK kts kss := by
  unfold hamK
  rw [l]
  congr 1
  refine List.filter_congr fun c _ => ?_
  unfold unl
  exact decide_eq_decide.mpr ⟨Ne.symm, Ne.symm⟩
end
end GL

/-! The runs of a league as lists. -/
namespace GL
open PySem PySem.Spec PyProof.Rows
open L2 hiding spCell
abbrev NxK (kss : List (List Int)) : Nat → Nat → Prop := LG.Nx kss.length (wonN kss)
abbrev EqK (kss : List (List Int)) : Nat → Nat → Prop := LG.Eq kss.length (wonN kss)
structure RowsOf (kss : List (List Int)) (rows : List (List Nat)) : Prop where
  big : ∀ r ∈ rows, 2 ≤ r.length
  low : ∀ r ∈ rows, ∀ p ∈ r, p < kss.length
  nx : ∀ r ∈ rows, ∀ i p q, r[i]? = some p → r[i + 1]? = some q → NxK kss p q
  all : ∀ p q, NxK kss p q → ∃ r ∈ rows, ∃ i : Nat, r[i]? = some p ∧ r[i + 1]? = some q
  nd : rows.flatten.Nodup
section
variable {kss kts : List (List Int)} {rows rows' : List (List Nat)} {r r' : List Nat} {p q x : Nat}
theorem flat_mem {ls : List (List Nat)} {x : Nat} {r r' : List Nat} (nd : ls.flatten.Nodup) (hr : r ∈ ls) (hr' : r' ∈ ls) (h : x ∈ r) (h' : x ∈ r') : r = r' := by
  induction ls with
  | nil => cases hr
  | cons a ls ih =>
    rw [List.flatten_cons, List.nodup_append] at nd
    obtain ⟨_, n2, n3⟩ := nd
    rcases List.mem_cons.mp hr with e | e
    · rcases List.mem_cons.mp hr' with e2 | e2
      · rw [e, e2]
      · subst e
        exact absurd rfl (n3 x h x (List.mem_flatten.mpr ⟨r', e2, h'⟩))
    · rcases List.mem_cons.mp hr' with e2 | e2
      · subst e2
        exact absurd rfl (n3 x h' x (List.mem_flatten.mpr ⟨r, e, h⟩))
      · exact ih n2 e e2
theorem row_nodup {ls : List (List Nat)} (nd : ls.flatten.Nodup) (hr : r ∈ ls) : r.Nodup := by
  induction ls with
  | nil => cases hr
  | cons a ls ih =>
    rw [List.flatten_cons, List.nodup_append] at nd
    rcases List.mem_cons.mp hr with e | e
    · subst e
      exact nd.1
    · exact ih nd.2.1 e
/-- along a list of neighbours -/
theorem row_eq {r : List Nat} (h : ∀ i p q, r[i]? = some p → r[i + 1]? = some q → NxK kss p q) : ∀ {i : Nat} {p q : Nat}, r[0]? = some p → r[i]? = some q → EqK kss p q := by
  intro i
  induction i with
  | zero =>
    intro p q hp hq
    rw [hp] at hq
    cases hq
    exact .refl _
  | succ i ih =>
    intro p q hp hq
    obtain ⟨m, hm⟩ : ∃ m, r[i]? = some m := ⟨_, List.getElem?_eq_getElem (by have := (List.getElem?_eq_some_iff.mp hq).1; omega)⟩
    exact .fwd (ih hp hm) (h i m q hm hq)
theorem RowsOf.same (R : RowsOf kss rows) (hr : r ∈ rows) (hp : p ∈ r) : x ∈ r ↔ EqK kss p x := by
  constructor
  · intro hx
    obtain ⟨i, hi⟩ := List.mem_iff_getElem?.mp hp
    obtain ⟨j, hj⟩ := List.mem_iff_getElem?.mp hx
    obtain ⟨h, hh⟩ : ∃ h, r[0]? = some h := ⟨_, List.getElem?_eq_getElem (by have := R.big r hr; omega)⟩
    exact (row_eq (R.nx r hr) hh hi).symm.trans (row_eq (R.nx r hr) hh hj)
  · intro h
    induction h with
    | refl => exact hp
    | fwd _ s ih =>
      obtain ⟨r2, h2, i, e1, e2⟩ := R.all _ _ s
      rw [flat_mem R.nd hr h2 ih (List.mem_of_getElem? e1)]
      exact List.mem_of_getElem? e2
    | bwd _ s ih =>
      obtain ⟨r2, h2, i, e1, e2⟩ := R.all _ _ s
      rw [flat_mem R.nd hr h2 ih (List.mem_of_getElem? e2)]
      exact List.mem_of_getElem? e1
/-- who is with another one is in a row -/
theorem RowsOf.has (R : RowsOf kss rows) (h : EqK kss p q) (ne : p ≠ q) : ∃ r ∈ rows, p ∈ r := by
  induction h with
  | refl => exact absurd rfl ne
  | @fwd j k g s ih =>
    by_cases c : p = j
    · subst c
      obtain ⟨r2, h2, i, e1, e2⟩ := R.all _ _ s
      exact ⟨r2, h2, List.mem_of_getElem? e1⟩
    · exact ih c
  | @bwd j k g s ih =>
    by_cases c : p = j
    · subst c
      obtain ⟨r2, h2, i, e1, e2⟩ := R.all _ _ s
      exact ⟨r2, h2, List.mem_of_getElem? e2⟩
    · exact ih c
theorem flat_permL {ls ms : List (List Nat)} (h : ls.Perm ms) : ls.flatten.Perm ms.flatten := by
  induction h with
  | nil => exact .nil
  | cons x _ ih =>
    rw [List.flatten_cons, List.flatten_cons]
    exact ih.append_left x
  | swap x y l =>
    rw [List.flatten_cons, List.flatten_cons, List.flatten_cons, List.flatten_cons, ← List.append_assoc, ← List.append_assoc]
    exact (List.perm_append_comm).append_right _
  | trans _ _ a b => exact a.trans b
theorem RowsOf.perm (R : RowsOf kss rows) (h : rows'.Perm rows) : RowsOf kss rows' :=
  ⟨fun r hr => R.big r (h.mem_iff.mp hr), fun r hr => R.low r (h.mem_iff.mp hr), fun r hr => R.nx r (h.mem_iff.mp hr), fun p q s => let ⟨r, hr, i, e⟩ := R.all p q s; ⟨r, h.mem_iff.mpr hr, i, e⟩, (flat_permL h).nodup_iff.mpr R.nd⟩
/-! ### rows in order, by their sorted people -/
/-- m stands for the sorted people of r -/
def SrtOf (r m : List Nat) : Prop := m.Pairwise (· < ·) ∧ ∀ x, x ∈ m ↔ x ∈ r
theorem srt_eq {r r' m m' : List Nat} (h : SrtOf r m) (h' : SrtOf r' m') (e : ∀ x, x ∈ r ↔ x ∈ r') : m = m' :=
  strict_ext (lt := fun x y : Nat => x < y) (fun a h => Nat.lt_irrefl a h) (fun a b h g => Nat.lt_asymm h g) h.1 h'.1 fun x => (h.2 x).trans ((e x).trans (h'.2 x).symm)
/-- rows in the order of their least people, with them sorted -/
structure Ordd (rows ms : List (List Nat)) : Prop where
  len : ms.length = rows.length
  each : ∀ (i : Nat) (r m : List Nat), rows[i]? = some r → ms[i]? = some m → SrtOf r m
  up : ms.Pairwise fun m m' => m.headD 0 < m'.headD 0
theorem Ordd.to {ms : List (List Nat)} (O : Ordd rows ms) (h : r ∈ rows) : ∃ m ∈ ms, SrtOf r m := by
  obtain ⟨i, hi⟩ := List.mem_iff_getElem?.mp h
  obtain ⟨m, hm⟩ : ∃ m, ms[i]? = some m := ⟨_, List.getElem?_eq_getElem (by rw [O.len]; exact (List.getElem?_eq_some_iff.mp hi).1)⟩
  exact ⟨m, List.mem_of_getElem? hm, O.each i r m hi hm⟩
theorem Ordd.back {ms : List (List Nat)} {m : List Nat} (O : Ordd rows ms) (h : m ∈ ms) : ∃ r ∈ rows, SrtOf r m := by
  obtain ⟨i, hi⟩ := List.mem_iff_getElem?.mp h
  obtain ⟨r, hr⟩ : ∃ r, rows[i]? = some r := ⟨_, List.getElem?_eq_getElem (by rw [← O.len]; exact (List.getElem?_eq_some_iff.mp hi).1)⟩
  exact ⟨r, List.mem_of_getElem? hr, O.each i r m hr hi⟩
theorem rows_same {ms ms' : List (List Nat)} (R : RowsOf kss rows) (R' : RowsOf kts rows') (O : Ordd rows ms) (O' : Ordd rows' ms') : ms = ms' ↔ ∀ i j, EqK kts i j ↔ EqK kss i j := by
  constructor
  · intro e
    have one : ∀ {kss kts : List (List Int)} {rows rows' ms ms' : List (List Nat)}, RowsOf kss rows → RowsOf kts rows' → Ordd rows ms → Ordd rows' ms' → ms = ms' → ∀ i j, EqK kss i j → EqK kts i j := by
      intro kss kts rows rows' ms ms' R R' O O' e i j h
      by_cases ne : i = j
      · subst ne
        exact .refl _
      · obtain ⟨r, hr, hi⟩ := R.has h ne
        have hj := (R.same hr hi).mpr h
        obtain ⟨m, hm, s⟩ := O.to hr
        rw [e] at hm
        obtain ⟨r', hr', s'⟩ := O'.back hm
        have i' := (s'.2 i).mp ((s.2 i).mpr hi)
        have j' := (s'.2 j).mp ((s.2 j).mpr hj)
        exact (R'.same hr' i').mp j'
    exact fun i j => ⟨one R' R O' O e.symm i j, one R R' O O' e i j⟩
  · intro h
    have sub : ∀ {kss kts : List (List Int)} {rows rows' ms ms' : List (List Nat)}, RowsOf kss rows → RowsOf kts rows' → Ordd rows ms → Ordd rows' ms' → (∀ i j, EqK kts i j ↔ EqK kss i j) → ∀ m ∈ ms, m ∈ ms' := by
      intro kss kts rows rows' ms ms' R R' O O' h m hm
      obtain ⟨r, hr, s⟩ := O.back hm
      have b := R.big r hr
      obtain ⟨p, hp⟩ : ∃ p, r[0]? = some p := ⟨_, List.getElem?_eq_getElem (by omega)⟩
      obtain ⟨q, hq⟩ : ∃ q, r[1]? = some q := ⟨_, List.getElem?_eq_getElem (by omega)⟩
      have pr := List.mem_of_getElem? hp
      have qr := List.mem_of_getElem? hq
      have ne := (R.nx r hr 0 p q hp hq).2.2.1
      obtain ⟨r', hr', p'⟩ := R'.has ((h p q).mpr ((R.same hr pr).mp qr)) ne
      obtain ⟨m', hm', s'⟩ := O'.to hr'
      rw [srt_eq s s' fun x => (R.same hr pr).trans ((h p x).symm.trans (R'.same hr' p').symm)]
      exact hm'
    refine strict_ext (lt := fun m m' : List Nat => m.headD 0 < m'.headD 0) (fun a h => Nat.lt_irrefl _ h) (fun a b h g => Nat.lt_asymm h g) O.up O'.up fun m => ⟨sub R R' O O' h m, sub R' R O' O (fun i j => (h i j).symm) m⟩
/-! ### what is sure -/
def sureN (kss : List (List Int)) (rows : List (List Nat)) (p : Nat) : Nat := bitsBy kss.length fun j => decide (p ≠ j) && (wonB kss p j && !(rows.any fun r => decide (p ∈ r) && decide (j ∈ r)))
theorem sure_like (f : Fine 2 kss) (g : Fine 2 kts) (l : kts.length = kss.length) (R : RowsOf kss rows) (R' : RowsOf kts rows') (h : ∀ i j, EqK kts i j ↔ EqK kss i j) : (∀ p < kss.length, sureN kss rows p = sureN kts rows' p) ↔ LikeK kss kts := by
  have out : ∀ {kss : List (List Int)} {rows : List (List Nat)} {p j : Nat}, RowsOf kss rows → p ≠ j → (rows.any (fun r => decide (p ∈ r) && decide (j ∈ r)) = true ↔ EqK kss p j) := by
    intro kss rows p j R ne
    rw [List.any_eq_true]
    constructor
    · rintro ⟨r, hr, e⟩
      rw [Bool.and_eq_true] at e
      exact (R.same hr (of_decide_eq_true e.1)).mp (of_decide_eq_true e.2)
    · intro e
      obtain ⟨r, hr, hp⟩ := R.has e ne
      exact ⟨r, hr, by rw [Bool.and_eq_true]; exact ⟨decide_eq_true hp, decide_eq_true ((R.same hr hp).mpr e)⟩⟩
  have bit : ∀ {kss : List (List Int)} {rows : List (List Nat)} {p j : Nat}, RowsOf kss rows → p ≠ j → j < kss.length → ¬ EqK kss p j → (sureN kss rows p).testBit j = wonB kss p j := by
    intro kss rows p j R ne hj no
    unfold sureN
    rw [bitsBy_bit, decide_eq_true hj, decide_eq_true ne, Bool.true_and, Bool.true_and]
    have : rows.any (fun r => decide (p ∈ r) && decide (j ∈ r)) = false := by
      rw [Bool.eq_false_iff]
      exact fun z => no ((out R ne).mp z)
    rw [this]
    exact Bool.and_true _
  have bit0 : ∀ {kss : List (List Int)} {rows : List (List Nat)} {p j : Nat}, RowsOf kss rows → (p = j ∨ ¬ j < kss.length ∨ EqK kss p j) → (sureN kss rows p).testBit j = false := by
    intro kss rows p j R c
    unfold sureN
    rw [bitsBy_bit]
    by_cases ne : p = j
    · rw [decide_eq_false (show ¬ (p ≠ j) from fun z => z ne), Bool.false_and, Bool.and_false]
    by_cases hj : j < kss.length
    · have e := (c.resolve_left ne).resolve_left (fun z => z hj)
      rw [(out R ne).mpr e]
      simp
    · rw [decide_eq_false hj, Bool.false_and]
  constructor
  · intro s
    refine ⟨fun i j => by have := h i j; unfold EqK at this; rw [l] at this; exact this, fun i j hi hj ne no => ?_⟩
    have e : (sureN kss rows i).testBit j = (sureN kts rows' i).testBit j := by rw [s i hi]
    rw [bit R ne hj no, bit R' ne (by omega) (fun z => no ((h i j).mp z))] at e
    rw [wonN_of (by omega) (by omega) ne, wonN_of hi hj ne]
    exact e.symm
  · intro L p hp
    refine Nat.eq_of_testBit_eq fun j => ?_
    by_cases c : p = j ∨ ¬ j < kss.length ∨ EqK kss p j
    · rw [bit0 R c, bit0 R' (c.imp id fun c => c.imp (fun z => by omega) fun z => (h p j).mpr z)]
    · rw [not_or, not_or] at c
      obtain ⟨ne, hj, no⟩ := c
      have hj : j < kss.length := Nat.lt_of_not_le fun z => hj (by omega)
      rw [bit R ne hj no, bit R' ne (by omega) (fun z => no ((h p j).mp z))]
      have := L.2 p j hp hj ne no
      rw [wonN_of (by omega) (by omega) ne, wonN_of hp hj ne] at this
      exact this.symm
end
end GL

/-! Rows from their heads on. -/
namespace GL
open PySem PySem.Spec PyProof.Rows
open L2 hiding spCell
def HeadK (kss : List (List Int)) (h : Nat) : Prop := (∃ q, NxK kss h q) ∧ ∀ p, ¬ NxK kss p h
structure ChainOf (kss : List (List Int)) (h : Nat) (r : List Nat) : Prop where
  at0 : r[0]? = some h
  nx : ∀ (i p q : Nat), r[i]? = some p → r[i + 1]? = some q → NxK kss p q
  ends : ∀ (p q : Nat), r[r.length - 1]? = some p → ¬ NxK kss p q
section
variable {kss : List (List Int)} {h h' p q x : Nat} {r : List Nat}
theorem nx_beat (f : Fine 2 kss) (s : NxK kss p q) : beatN kss q < beatN kss p := by
  obtain ⟨hp, hq, ne, w, al⟩ := nx_iff.mp s
  have e := (next_iff f hp hq).mpr ⟨ne, w, al⟩
  have nb := beatN_own hq
  have : beatN kss q < beatN kss q ||| 2 ^ q := by
    refine Nat.lt_of_le_of_ne Nat.left_le_or fun z => ?_
    have : (beatN kss q).testBit q = (beatN kss q ||| 2 ^ q).testBit q := by rw [← z]
    rw [or_pow, nb] at this
    simp at this
  rw [e]
  exact this
theorem beat_lt (hp : p < kss.length) : beatN kss p < 2 ^ kss.length := by
  refine Nat.lt_pow_two_of_testBit _ fun i hi => ?_
  exact beatN_out hp (by omega)
/-- each person is behind a head, or the head itself -/
theorem has_head (f : Fine 2 kss) : ∀ (m : Nat) {p : Nat}, p < kss.length → 2 ^ kss.length - beatN kss p ≤ m → (∃ q, NxK kss p q) → ∃ h, HeadK kss h ∧ (h = p ∨ LG.Ch kss.length (wonN kss) h p)
  | 0, p, hp, l, _ => by
    have := beat_lt hp
    omega
  | m + 1, p, hp, l, n => by
    by_cases c : ∃ z, NxK kss z p
    · obtain ⟨z, s⟩ := c
      have := nx_beat f s
      have := beat_lt s.1
      obtain ⟨h, hh, e⟩ := has_head f m s.1 (by omega) ⟨p, s⟩
      refine ⟨h, hh, .inr ?_⟩
      rcases e with e | e
      · subst e
        exact .one s
      · exact e.snoc s
    · exact ⟨p, ⟨n, fun z s => c ⟨z, s⟩⟩, .inl rfl⟩
theorem chain_ch (C : ChainOf kss h r) : ∀ {i j : Nat} {p q : Nat}, i < j → r[i]? = some p → r[j]? = some q → LG.Ch kss.length (wonN kss) p q := by
  intro i j
  induction j with
  | zero => intro p q ij; omega
  | succ j ih =>
    intro p q ij hp hq
    obtain ⟨m, hm⟩ : ∃ m, r[j]? = some m := ⟨_, List.getElem?_eq_getElem (by have := (List.getElem?_eq_some_iff.mp hq).1; omega)⟩
    have s := C.nx j m q hm hq
    by_cases c : i = j
    · subst c
      rw [hm] at hp
      cases hp
      exact .one s
    · exact (ih (by omega) hp hm).snoc s
theorem chain_nodup (f : Fine 2 kss) (C : ChainOf kss h r) : r.Nodup := by
  rw [List.Nodup, List.pairwise_iff_getElem]
  intro i j hi hj ij
  exact (LG.ch_won (wonN_anti f) (chain_ch C ij (List.getElem?_eq_getElem hi) (List.getElem?_eq_getElem hj))).1
/-- all that is behind somebody of a chain is of it -/
theorem chain_next (f : Fine 2 kss) (C : ChainOf kss h r) {i : Nat} (hi : r[i]? = some p) (s : NxK kss p q) : r[i + 1]? = some q := by
  have li := (List.getElem?_eq_some_iff.mp hi).1
  by_cases c : i + 1 < r.length
  · obtain ⟨q', e⟩ : ∃ q', r[i + 1]? = some q' := ⟨_, List.getElem?_eq_getElem c⟩
    rw [e, LG.nx_fun (wonN_anti f) s (C.nx i p q' hi e)]
  · refine absurd s (C.ends p q ?_)
    rw [show r.length - 1 = i by omega]
    exact hi
theorem chain_all (f : Fine 2 kss) (C : ChainOf kss h r) (hp : p ∈ r) (g : LG.Ch kss.length (wonN kss) p q) : q ∈ r := by
  induction g with
  | one s =>
    obtain ⟨i, hi⟩ := List.mem_iff_getElem?.mp hp
    exact List.mem_of_getElem? (chain_next f C hi s)
  | more s _ ih =>
    obtain ⟨i, hi⟩ := List.mem_iff_getElem?.mp hp
    exact ih (List.mem_of_getElem? (chain_next f C hi s))
/-- who is in a chain is behind its head -/
theorem chain_from (C : ChainOf kss h r) (hp : p ∈ r) : h = p ∨ LG.Ch kss.length (wonN kss) h p := by
  obtain ⟨i, hi⟩ := List.mem_iff_getElem?.mp hp
  cases i with
  | zero =>
    rw [C.at0] at hi
    exact .inl (Option.some.inj hi)
  | succ i => exact .inr (chain_ch C (Nat.succ_pos i) C.at0 hi)
theorem ch_pred {n : Nat} {W : Nat → Nat → Bool} {i j : Nat} (g : LG.Ch n W i j) : ∃ z, LG.Nx n W z j := by
  induction g with
  | one s => exact ⟨_, s⟩
  | more _ _ ih => exact ih
/-- two heads with somebody behind both are one -/
theorem head_one (f : Fine 2 kss) (a : HeadK kss h) (b : HeadK kss h') (e : h = p ∨ LG.Ch kss.length (wonN kss) h p) (e' : h' = p ∨ LG.Ch kss.length (wonN kss) h' p) : h = h' := by
  have A := wonN_anti f
  have both : ∀ {h h' p : Nat}, (∀ z, ¬ NxK kss z h') → LG.Ch kss.length (wonN kss) h p → (h' = p ∨ LG.Ch kss.length (wonN kss) h' p) → LG.Ch kss.length (wonN kss) h h' ∨ h = h' ∨ LG.Ch kss.length (wonN kss) h' h := by
    intro h h' p no g e'
    rcases e' with z | z
    · subst z
      exact .inl g
    · rcases LG.eq_line A (g.eq.trans z.eq.symm) with y | y | y
      · exact .inr (.inl y)
      · exact .inl y
      · exact .inr (.inr y)
  rcases e with z | z
  · subst z
    rcases e' with y | y
    · exact y.symm
    · obtain ⟨u, s⟩ := ch_pred y
      exact absurd s (a.2 u)
  · rcases both b.2 z e' with y | y | y
    · obtain ⟨u, s⟩ := ch_pred y
      exact absurd s (b.2 u)
    · exact y
    · obtain ⟨u, s⟩ := ch_pred y
      exact absurd s (a.2 u)
theorem flatten_nodup {ls : List (List Nat)} (h1 : ∀ r ∈ ls, r.Nodup) (h2 : ls.Pairwise fun r r' => ∀ x ∈ r, x ∉ r') : ls.flatten.Nodup := by
  induction ls with
  | nil => exact List.nodup_nil
  | cons a ls ih =>
    obtain ⟨p1, p2⟩ := List.pairwise_cons.mp h2
    rw [List.flatten_cons, List.nodup_append]
    refine ⟨h1 a (List.mem_cons_self ..), ih (fun r hr => h1 r (List.mem_cons_of_mem _ hr)) p2, fun x hx y hy e => ?_⟩
    subst e
    obtain ⟨r, hr, hxr⟩ := List.mem_flatten.mp hy
    exact p1 r hr x hx hxr
theorem rows_of_heads (f : Fine 2 kss) {hs : List Nat} {rows : List (List Nat)} (nd : hs.Nodup) (all : ∀ h, h ∈ hs ↔ HeadK kss h) (len : rows.length = hs.length) (ch : ∀ (i h : Nat) (r : List Nat), hs[i]? = some h → rows[i]? = some r → ChainOf kss h r) : RowsOf kss rows := by
  have of : ∀ {r : List Nat}, r ∈ rows → ∃ h, HeadK kss h ∧ ChainOf kss h r := fun {r} hr => by
    obtain ⟨i, hi⟩ := List.mem_iff_getElem?.mp hr
    obtain ⟨h, hh⟩ : ∃ h, hs[i]? = some h := ⟨_, List.getElem?_eq_getElem (by rw [← len]; exact (List.getElem?_eq_some_iff.mp hi).1)⟩
    exact ⟨h, (all h).mp (List.mem_of_getElem? hh), ch i h r hh hi⟩
  have big : ∀ r ∈ rows, 2 ≤ r.length := fun r hr => by
    obtain ⟨h, hh, C⟩ := of hr
    obtain ⟨q, s⟩ := hh.1
    have := (List.getElem?_eq_some_iff.mp (chain_next f C C.at0 s)).1
    omega
  refine ⟨big, fun r hr p hp => ?_, fun r hr => (of hr).elim fun _ hC => hC.2.nx, fun p q s => ?_, flatten_nodup (fun r hr => (of hr).elim fun _ hC => chain_nodup f hC.2) ?_⟩
  · obtain ⟨h, hh, C⟩ := of hr
    rcases chain_from C hp with e | e
    · subst e
      obtain ⟨q, s⟩ := hh.1
      exact s.1
    · exact e.right
  · obtain ⟨h, hh, e⟩ := has_head f _ s.1 (Nat.le_refl _) ⟨q, s⟩
    obtain ⟨i, hi⟩ := List.mem_iff_getElem?.mp ((all h).mpr hh)
    obtain ⟨r, hr⟩ : ∃ r, rows[i]? = some r := ⟨_, List.getElem?_eq_getElem (by rw [len]; exact (List.getElem?_eq_some_iff.mp hi).1)⟩
    have C := ch i h r hi hr
    have hpr : p ∈ r := by
      rcases e with e | e
      · subst e
        exact List.mem_of_getElem? C.at0
      · exact chain_all f C (List.mem_of_getElem? C.at0) e
    obtain ⟨j, hj⟩ := List.mem_iff_getElem?.mp hpr
    exact ⟨r, List.mem_of_getElem? hr, j, hj, chain_next f C hj s⟩
  · rw [List.pairwise_iff_getElem]
    intro i j hi hj ij x hx hx'
    obtain ⟨h, hh⟩ : ∃ h, hs[i]? = some h := ⟨_, List.getElem?_eq_getElem (by omega)⟩
    obtain ⟨h', hh'⟩ : ∃ h, hs[j]? = some h := ⟨_, List.getElem?_eq_getElem (by omega)⟩
    have C := ch i h _ hh (List.getElem?_eq_getElem hi)
    have C' := ch j h' _ hh' (List.getElem?_eq_getElem hj)
    have e := head_one f ((all h).mp (List.mem_of_getElem? hh)) ((all h').mp (List.mem_of_getElem? hh')) (chain_from C hx) (chain_from C' hx')
    subst e
    have := (List.getElem?_inj (by omega) nd).mp (hh.trans hh'.symm)
    omega
end
end GL

/-! What the defs on runs promise. -/
namespace GL
open PySem PySem.Spec PyProof.Rows
open L2 hiding spCell
section
variable {X : Cx}
/-- T &= ~held -/
theorem iopN_less : PIp X .BitAnd (fun x y H Q => ∃ T held : Nat, x = .int (T : Int) ∧ y = .int (Builtin.bitNot (held : Int)) ∧ ∀ r : Nat, (∀ j, r.testBit j = (T.testBit j && !held.testBit j)) → Q (.int (r : Int)) H) := fun pins s σ H x y v u Q I r1 r2 ⟨T, held, e1, e2, q⟩ => by
  obtain ⟨r, er, hr⟩ := and_not T held
  refine iop_and pins s σ H x y v u Q I r1 r2 ⟨(T : Int), Builtin.bitNot (held : Int), e1, e2, ?_⟩
  dsimp only
  rw [er]
  exact q r hr
end
/-- rows of people in a heap, in the order of their least people -/
structure RowsAt (H : Hp) (p : Addr) (rs : List Addr) (rows : List (List Nat)) : Prop where
  top : H p = some (.lst (rs.map V.ref))
  len : rows.length = rs.length
  row : ∀ (i : Nat) (r : Addr) (l : List Nat), rs[i]? = some r → rows[i]? = some l → H r = some (.lst (natV l))
  nd : rs.Nodup
theorem RowsAt.same {H H' : Hp} {p : Addr} {rs : List Addr} {rows : List (List Nat)} (R : RowsAt H p rs rows) (s : Same H H') : RowsAt H' p rs rows := ⟨s _ _ R.top, R.len, fun i r l a b => s _ _ (R.row i r l a b), R.nd⟩
/-- rows with their least people rising -/
def MinUp (rows : List (List Nat)) : Prop := rows.Pairwise fun r r' => ∃ a ∈ r, (∀ x ∈ r, a ≤ x) ∧ ∃ b ∈ r', (∀ y ∈ r', b ≤ y) ∧ a < b
end GL

/-! Rows as they are built and sorted. -/
namespace GL
open PySem PySem.Spec PyProof.Rows
open L2 hiding spCell
theorem perm_map_back {α β : Type} (f : α → β) : ∀ {m : List α} {l : List β}, l.Perm (m.map f) → ∃ m' : List α, m'.Perm m ∧ l = m'.map f
  | [], l, h => ⟨[], .nil, List.Perm.eq_nil h⟩
  | a :: m, l, h => by
    rw [List.map_cons] at h
    have hm : f a ∈ l := h.mem_iff.mpr (List.mem_cons_self ..)
    obtain ⟨l1, l2, rfl⟩ := List.append_of_mem hm
    have h2 : (l1 ++ l2).Perm (m.map f) := (List.perm_middle.symm.trans h).cons_inv
    obtain ⟨m', p, e⟩ := perm_map_back f h2
    obtain ⟨m1, m2, rfl, e1, e2⟩ := List.map_eq_append_iff.mp e.symm
    refine ⟨m1 ++ a :: m2, List.perm_middle.trans (p.cons a), ?_⟩
    rw [List.map_append, List.map_cons, e1, e2]
def minL (l : List Nat) : Nat := l.foldl min (l.headD 0)
theorem foldl_min : ∀ (l : List Nat) (a : Nat), l.foldl min a ≤ a ∧ (∀ x ∈ l, l.foldl min a ≤ x) ∧ (l.foldl min a = a ∨ l.foldl min a ∈ l)
  | [], a => ⟨Nat.le_refl _, (fun x h => nomatch h), Or.inl rfl⟩
  | b :: l, a => by
    obtain ⟨h1, h2, h3⟩ := foldl_min l (min a b)
    rw [List.foldl_cons]
    refine ⟨by omega, fun x hx => ?_, ?_⟩
    · rcases List.mem_cons.mp hx with e | e
      · subst e
        omega
      · exact h2 x e
    · rcases h3 with e | e
      · rw [e]
        by_cases c : a ≤ b
        · exact .inl (by omega)
        · exact .inr (by rw [show min a b = b by omega]; exact List.mem_cons_self ..)
      · exact .inr (List.mem_cons_of_mem _ e)
theorem minL_ok {l : List Nat} (h : l ≠ []) : minL l ∈ l ∧ ∀ x ∈ l, minL l ≤ x := by
  cases l with
  | nil => exact absurd rfl h
  | cons a l =>
    unfold minL
    rw [List.headD_cons]
    obtain ⟨h1, h2, h3⟩ := foldl_min (a :: l) a
    refine ⟨?_, h2⟩
    rcases h3 with e | e
    · rw [e]
      exact List.mem_cons_self ..
    · exact e
section
variable {kss : List (List Int)}
theorem chain_exists (f : Fine 2 kss) : ∀ (m : Nat) {p : Nat}, p < kss.length → beatN kss p < m → ∃ r, ChainOf kss p r
  | 0, p, _, h => absurd h (Nat.not_lt_zero _)
  | m + 1, p, hp, h => by
    by_cases c : ∃ q, NxK kss p q
    · obtain ⟨q, s⟩ := c
      obtain ⟨r, C⟩ := chain_exists f m s.2.1 (by have := nx_beat f s; omega)
      refine ⟨p :: r, rfl, fun i a b ha hb => ?_, fun a b ha => ?_⟩
      · cases i with
        | zero =>
          have ha : some p = some a := ha
          have hb : r[0]? = some b := hb
          rw [C.at0] at hb
          cases ha
          cases hb
          exact s
        | succ i => exact C.nx i a b ha hb
      · refine C.ends a b ?_
        have : r ≠ [] := fun z => by
          have := C.at0
          rw [z] at this
          cases this
        have l : 0 < r.length := List.length_pos_iff.mpr this
        rw [List.length_cons, Nat.add_sub_cancel] at ha
        rw [show r.length = (r.length - 1) + 1 by omega, List.getElem?_cons_succ] at ha
        exact ha
    · refine ⟨[p], rfl, fun i a b ha hb => by simp at hb, fun a b ha s => ?_⟩
      have ha : some p = some a := ha
      cases ha
      exact c ⟨b, s⟩
theorem chain_low {h : Nat} {r : List Nat} (hh : h < kss.length) (C : ChainOf kss h r) : ∀ x ∈ r, x < kss.length := fun x hx => by
  rcases chain_from C hx with e | e
  · rw [← e]
    exact hh
  · exact e.right
theorem chain_len (f : Fine 2 kss) {h : Nat} {r : List Nat} (hh : h < kss.length) (C : ChainOf kss h r) : r.length ≤ kss.length := by
  have := List.Nodup.length_le_of_subset (chain_nodup f C) (l₂ := List.range kss.length) fun x hx => List.mem_range.mpr (chain_low hh C x hx)
  rwa [List.length_range] at this
/-! ### the persons with a next one, and who is led -/
def persN (kss : List (List Int)) : List Nat := (nextsTo kss kss.length).map (·.1)
def ledN (kss : List (List Int)) : List Nat := (nextsTo kss kss.length).map (·.2)
def headN (kss : List (List Int)) (i : Nat) : List Nat := ((persN kss).take i).filter fun p => !decide (p ∈ ledN kss)
theorem nexts_sorted : (nextsTo kss kss.length).Pairwise fun c d => c.1 < d.1 := by
  unfold nextsTo
  rw [List.pairwise_filterMap]
  refine List.pairwise_lt_range.imp fun {a b} h x hx y hy => ?_
  cases e1 : nextP kss a with
  | none => rw [e1] at hx; cases hx
  | some u =>
    cases e2 : nextP kss b with
    | none => rw [e2] at hy; cases hy
    | some v =>
      rw [e1] at hx
      rw [e2] at hy
      have hx : (a, u) = x := Option.some.inj hx
      have hy : (b, v) = y := Option.some.inj hy
      rw [← hx, ← hy]
      exact h
theorem pers_nodup : (persN kss).Nodup := by
  unfold persN List.Nodup
  rw [List.pairwise_map]
  exact nexts_sorted.imp fun h => Nat.ne_of_lt h
theorem nexts_nx (f : Fine 2 kss) {p q : Nat} : (p, q) ∈ nextsTo kss kss.length ↔ NxK kss p q := by
  rw [nexts_mem]
  constructor
  · rintro ⟨hp, e⟩
    exact (next_nx f hp).mp e
  · intro s
    exact ⟨s.1, (next_nx f s.1).mpr s⟩
theorem pers_mem (f : Fine 2 kss) {p : Nat} : p ∈ persN kss ↔ ∃ q, NxK kss p q := by
  unfold persN
  rw [List.mem_map]
  constructor
  · rintro ⟨⟨a, b⟩, h, rfl⟩
    exact ⟨b, (nexts_nx f).mp h⟩
  · rintro ⟨q, s⟩
    exact ⟨(p, q), (nexts_nx f).mpr s, rfl⟩
theorem led_mem (f : Fine 2 kss) {q : Nat} : q ∈ ledN kss ↔ ∃ p, NxK kss p q := by
  unfold ledN
  rw [List.mem_map]
  constructor
  · rintro ⟨⟨a, b⟩, h, rfl⟩
    exact ⟨a, (nexts_nx f).mp h⟩
  · rintro ⟨p, s⟩
    exact ⟨(p, q), (nexts_nx f).mpr s, rfl⟩
theorem led_nodup (f : Fine 2 kss) : (ledN kss).Nodup := by
  unfold ledN List.Nodup
  rw [List.pairwise_map]
  refine nexts_sorted.imp_of_mem fun {c d} hc hd h e => ?_
  obtain ⟨c1, c2⟩ := c
  obtain ⟨d1, d2⟩ := d
  have e : c2 = d2 := e
  subst e
  have := LG.nx_inj (wonN_anti f) ((nexts_nx f).mp hc) ((nexts_nx f).mp hd)
  have h : c1 < d1 := h
  omega
theorem heads_all (f : Fine 2 kss) {h : Nat} : h ∈ headN kss (persN kss).length ↔ HeadK kss h := by
  unfold headN
  rw [List.take_length, List.mem_filter, pers_mem f]
  constructor
  · rintro ⟨a, b⟩
    refine ⟨a, fun p s => ?_⟩
    rw [decide_eq_true ((led_mem f).mpr ⟨p, s⟩)] at b
    cases b
  · rintro ⟨a, b⟩
    refine ⟨a, ?_⟩
    rw [decide_eq_false fun z => (led_mem f).mp z |>.elim b]
    rfl
theorem heads_nodup (i : Nat) : (headN kss i).Nodup := (pers_nodup.sublist (List.take_sublist _ _)).sublist List.filter_sublist
theorem head_next {i p : Nat} (h : (persN kss)[i]? = some p) : headN kss (i + 1) = headN kss i ++ if p ∈ ledN kss then [] else [p] := by
  unfold headN
  rw [List.take_add_one, h, List.filter_append]
  congr 1
  show List.filter _ [p] = _
  by_cases c : p ∈ ledN kss
  · rw [if_pos c, List.filter_cons_of_neg (p := fun p => !decide (p ∈ ledN kss)) (by rw [decide_eq_true c]; decide), List.filter_nil]
  · rw [if_neg c, List.filter_cons_of_pos (p := fun p => !decide (p ∈ ledN kss)) (by rw [decide_eq_false c]; rfl), List.filter_nil]
/-- numbers with True -/
def dB (qs : List Nat) : List (Key × V) := qs.map fun q => ((Sum.inl ((q : Nat) : Int) : Key), V.bl true)
theorem dB_val (qs : List Nat) (p : Nat) : (valV (dB qs) (Sum.inl ((p : Nat) : Int))).isSome = decide (p ∈ qs) := by
  unfold valV dB
  rw [List.find?_map, Option.map_map, Option.isSome_map]
  induction qs with
  | nil => rfl
  | cons q qs ih =>
    rw [List.find?_cons]
    by_cases c : q = p
    · subst c
      have : ((fun kv : Key × V => decide (kv.1 = Sum.inl ((q : Nat) : Int))) ∘ fun q => ((Sum.inl ((q : Nat) : Int) : Key), V.bl true)) q = true := decide_eq_true rfl
      rw [this, decide_eq_true (List.mem_cons_self ..)]
      rfl
    · have : ((fun kv : Key × V => decide (kv.1 = Sum.inl ((p : Nat) : Int))) ∘ fun q => ((Sum.inl ((q : Nat) : Int) : Key), V.bl true)) q = false := decide_eq_false fun z => c (by have := Sum.inl.inj z; omega)
      rw [this]
      show _ = decide (p ∈ q :: qs)
      rw [decide_eq_decide.mpr (show p ∈ q :: qs ↔ p ∈ qs from ⟨fun z => (List.mem_cons.mp z).resolve_left fun y => c y.symm, List.mem_cons_of_mem _⟩)]
      exact ih
theorem dB_put {qs : List Nat} {q : Nat} (h : q ∉ qs) : putK (dB qs) (Sum.inl ((q : Nat) : Int)) (V.bl true) = dB (qs ++ [q]) := by
  rw [putK_new]
  · unfold dB
    rw [List.map_append]
    rfl
  · have := dB_val qs q
    rw [decide_eq_false h] at this
    cases e : valV (dB qs) (Sum.inl ((q : Nat) : Int)) with
    | none => rfl
    | some x => rw [e] at this; cases this
theorem dP_next (f : Fine 2 kss) {p : Nat} (hp : p < kss.length) : valV (dP (nextsTo kss kss.length)) (Sum.inl ((p : Nat) : Int)) = (nextP kss p).map fun q => V.int ((q : Nat) : Int) := by
  have gen : ∀ cs : List (Nat × Nat), valV (dP cs) (Sum.inl ((p : Nat) : Int)) = (cs.find? fun c => decide (c.1 = p)).map fun c => V.int ((c.2 : Nat) : Int) := by
    intro cs
    unfold valV dP
    rw [List.find?_map, Option.map_map]
    have e : ((fun kv : Key × V => decide (kv.1 = Sum.inl ((p : Nat) : Int))) ∘ fun c : Nat × Nat => ((Sum.inl ((c.1 : Nat) : Int) : Key), V.int ((c.2 : Nat) : Int))) = fun c => decide (c.1 = p) := by
      funext c
      show decide ((Sum.inl ((c.1 : Nat) : Int) : Key) = Sum.inl ((p : Nat) : Int)) = _
      exact decide_eq_decide.mpr ⟨fun z => by have := Sum.inl.inj z; omega, fun z => by rw [z]⟩
    rw [e]
    rfl
  rw [gen]
  cases e : nextP kss p with
  | none =>
    rw [List.find?_eq_none.mpr]
    · rfl
    · rintro ⟨a, b⟩ h z
      have z := of_decide_eq_true z
      dsimp only at z
      subst z
      rw [(nexts_mem.mp h).2] at e
      cases e
  | some q =>
    have hm : (p, q) ∈ nextsTo kss kss.length := nexts_mem.mpr ⟨hp, e⟩
    cases c : (nextsTo kss kss.length).find? fun c => decide (c.1 = p) with
    | none => exact absurd (decide_eq_true rfl) (List.find?_eq_none.mp c _ hm)
    | some d =>
      obtain ⟨d1, d2⟩ := d
      have h1 := List.mem_of_find?_eq_some c
      have h2 := List.find?_some c
      have h2 := of_decide_eq_true h2
      dsimp only at h2
      subst h2
      have := (nexts_mem.mp h1).2
      rw [e] at this
      cases this
      rfl
end
end GL

/-! Rows sorted by their least people; lists of next ones. -/
namespace GL
open PySem PySem.Spec PyProof.Rows
open L2 hiding spCell
theorem dP_at {cs : List (Nat × Nat)} {i : Nat} {k : Key} {v : V} (h : (dP cs)[i]? = some (k, v)) : ∃ p q, cs[i]? = some (p, q) ∧ k = Sum.inl ((p : Nat) : Int) ∧ v = .int ((q : Nat) : Int) := by
  unfold dP at h
  rw [List.getElem?_map] at h
  cases e : cs[i]? with
  | none => rw [e] at h; cases h
  | some c =>
    rw [e] at h
    obtain ⟨p, q⟩ := c
    cases h
    exact ⟨p, q, rfl, rfl, rfl⟩
theorem disj_of {ls : List (List Nat)} (h : ls.flatten.Nodup) : ls.Pairwise fun r r' => ∀ x ∈ r, x ∉ r' := by
  induction ls with
  | nil => exact .nil
  | cons a ls ih =>
    rw [List.flatten_cons, List.nodup_append] at h
    exact .cons (fun r hr x hx hx' => h.2.2 x hx x (List.mem_flatten.mpr ⟨r, hr, hx'⟩) rfl) (ih h.2.1)
theorem nums_mem {l : List Nat} {y : Int} : y ∈ nums l ↔ ∃ x ∈ l, y = ((x : Nat) : Int) := by
  unfold nums
  rw [List.mem_map]
  exact ⟨fun ⟨x, hx, e⟩ => ⟨x, hx, e.symm⟩, fun ⟨x, hx, e⟩ => ⟨x, hx, e.symm⟩⟩
section
variable {kss : List (List Int)} {H : Hp} {R0 p : Addr} {rs : List Addr} {rows : List (List Nat)} {ps : List (Int × Addr)}
theorem pers_low {x : Nat} (h : x ∈ persN kss) : x < kss.length := by
  unfold persN at h
  obtain ⟨⟨a, b⟩, h2, rfl⟩ := List.mem_map.mp h
  exact (nexts_mem.mp h2).1
theorem pers_len : (persN kss).length ≤ kss.length := by
  have := List.Nodup.length_le_of_subset (pers_nodup (kss := kss)) (l₂ := List.range kss.length) fun x hx => List.mem_range.mpr (pers_low hx)
  rwa [List.length_range] at this
end
end GL

/-! Dicts of flat values that are the same; what sure_results does. -/
namespace GL
open PySem PySem.Spec PyProof.Rows
open L2 hiding spCell
def hitN (ls : List (Key × V)) (p : Key × V) : Bool := match valV ls p.1 with
  | some v => eqV p.2 v
  | none => false
def sameN (ks ls : List (Key × V)) : Bool := ks.length == ls.length && ks.all (hitN ls)
theorem val_flatN {ls : List (Key × V)} (f : ∀ p ∈ ls, flatV p.2 = true) {k : Key} {v : V} (h : valV ls k = some v) : flatV v = true := by
  induction ls with
  | nil => cases h
  | cons p r ih =>
    by_cases e : p.1 = k
    · rw [valV_pos e] at h
      cases h
      exact f p (List.mem_cons_self ..)
    · rw [valV_neg e] at h
      exact ih (fun q hq => f q (List.mem_cons_of_mem _ hq)) h
theorem hits_anyN {A : Around} {s : Shared} {ls : List (Key × V)} {vb : List (Key × Value)} (rb : KV ls vb) (fl : ∀ p ∈ ls, flatV p.2 = true) : ∀ {ks : List (Key × V)} {va : List (Key × Value)}, KV ks va → (∀ p ∈ ks, flatV p.2 = true) → PySem.W.KeqHits A s vb va (ks.all (hitN ls)) := by
  intro ks va ra
  unfold KV at ra
  induction ra with
  | nil => intro _; exact .nil
  | @cons p q ps qs h t ih =>
    intro hp
    obtain ⟨h1, h2⟩ := h
    obtain ⟨k, v⟩ := q
    have h1 : p.1 = k := h1
    subst h1
    have rr := rb.val p.1
    have ihh := ih fun p' hm => hp p' (List.mem_cons_of_mem _ hm)
    rw [List.all_cons]
    cases e : valV ls p.1 with
    | none =>
      rw [e] at rr
      have eh : hitN ls p = false := by
        unfold hitN
        rw [e]
      rw [eh, Bool.false_and]
      cases e2 : valueAt vb p.1 with
      | none => exact .miss e2
      | some y =>
        rw [e2] at rr
        cases rr
    | some x =>
      rw [e] at rr
      obtain ⟨y, hy, ry⟩ := rr.some_of
      have eh : hitN ls p = eqV p.2 x := by
        unfold hitN
        rw [e]
      rw [eh]
      exact .hit hy (eqAt_V h2 ry (hp p (List.mem_cons_self ..)) (val_flatN fl e)) ihh
def rEqDN : R2 := fun x y H Q => ∃ (a b : Addr) (ks ls : List (Key × V)), x = .ref a ∧ y = .ref b ∧ H a = some (.dK ks) ∧ H b = some (.dK ls) ∧ (∀ p ∈ ks, flatV p.2 = true) ∧ (∀ p ∈ ls, flatV p.2 = true) ∧ Q (.bl (sameN ks ls)) H
theorem op_eqDN {X : Cx} (hu : X.A.units < cLine) : OpR X (compareOp .Eq) rEqDN := by
  intro pins s σ H x y v u Q I rx ry h
  obtain ⟨a, b, ks, ls, rfl, rfl, ea, eb, fk, fl, q⟩ := h
  obtain rfl : v = Value.ref a := rx
  obtain rfl : u = Value.ref b := ry
  obtain ⟨_, ya, va, ra, da⟩ := (show ObjOk X.prog X.w H s.heap a (.dK ks) from I.hok a _ ea)
  obtain ⟨_, yb, vb, rb, db⟩ := (show ObjOk X.prog X.w H s.heap b (.dK ls) from I.hok b _ eb)
  exact PySem.W.keq_eq (knd := mixKind X.prog X.w) (r := ks.all (hitN ls)) ya yb da db hu (fun _ => hits_anyN rb fl ra fk) (fin_bl I q (by
    unfold sameN
    rw [ra.length, rb.length]))

section
variable {kss : List (List Int)} {rows : List (List Nat)} {r : List Nat} {i j p : Nat}
theorem sure_nil (hp : p < kss.length) : sureN kss [] p = beatN kss p := by
  refine Nat.eq_of_testBit_eq fun j => ?_
  unfold sureN
  rw [bitsBy_bit, beatN_bit kss hp, List.any_nil, Bool.not_false, Bool.and_true]
theorem sure_step (hr : rows[i]? = some r) (hp : p ∈ r) {z : Nat} (h : ∀ x, z.testBit x = ((sureN kss (rows.take i) p).testBit x && !(bitsN r).testBit x)) : z = sureN kss (rows.take (i + 1)) p := by
  refine Nat.eq_of_testBit_eq fun x => ?_
  rw [h x]
  unfold sureN
  rw [bitsBy_bit, bitsBy_bit, bitsN_bit, List.take_add_one, hr, List.any_append]
  show _ = (_ && (_ && (_ && !(_ || List.any [r] _))))
  rw [List.any_cons, List.any_nil, Bool.or_false, decide_eq_true hp, Bool.true_and, Bool.not_or, Bool.and_assoc, Bool.and_assoc, Bool.and_assoc]
theorem sure_out (hr : rows[i]? = some r) (hp : p ∉ r) : sureN kss (rows.take (i + 1)) p = sureN kss (rows.take i) p := by
  refine Nat.eq_of_testBit_eq fun x => ?_
  unfold sureN
  rw [bitsBy_bit, bitsBy_bit, List.take_add_one, hr, List.any_append]
  show (_ && (_ && (_ && !(_ || List.any [r] _)))) = _
  rw [List.any_cons, List.any_nil, Bool.or_false, decide_eq_false hp, Bool.false_and, Bool.or_false]
end
end GL

/-! Rows sorted; when two leagues are joined. -/
namespace GL
open PySem PySem.Spec PyProof.Rows
open L2 hiding spCell
def srtN (n : Nat) (r : List Nat) : List Nat := (List.range n).filter fun x => decide (x ∈ r)
theorem srt_of {n : Nat} {r : List Nat} (low : ∀ x ∈ r, x < n) : SrtOf r (srtN n r) := by
  refine ⟨List.pairwise_lt_range.sublist List.filter_sublist, fun x => ?_⟩
  unfold srtN
  rw [List.mem_filter, List.mem_range]
  exact ⟨fun h => of_decide_eq_true h.2, fun h => ⟨low x h, decide_eq_true h⟩⟩
theorem srt_get {n : Nat} {r : List Nat} {ns : List Int} (low : ∀ x ∈ r, x < n) (nd : r.Nodup) (pm : ns.Perm (nums r)) (so : ns.Pairwise (· ≤ ·)) : ns = nums (srtN n r) := by
  obtain ⟨m, pz, e⟩ := perm_map_back (fun (x : Nat) => (x : Int)) (l := ns) (m := r) pm
  rw [e]
  refine congrArg nums ?_
  have md : m.Nodup := pz.nodup_iff.mpr nd
  rw [e, List.pairwise_map] at so
  refine srt_eq (r := r) (r' := r) ⟨(List.Pairwise.and so md).imp fun {a b} h => ?_, fun x => pz.mem_iff⟩ (srt_of low) fun x => Iff.rfl
  have h1 : (a : Int) ≤ (b : Int) := h.1
  have h2 : a ≠ b := h.2
  omega
theorem head_min {m : List Nat} {a : Nat} (so : m.Pairwise (· < ·)) (ha : a ∈ m) (h : ∀ x ∈ m, a ≤ x) : m.headD 0 = a := by
  cases m with
  | nil => cases ha
  | cons b m =>
    rw [List.headD_cons]
    have := h b (List.mem_cons_self ..)
    rcases List.mem_cons.mp ha with e | e
    · exact e.symm
    · have := (List.pairwise_cons.mp so).1 a e
      omega
section
variable {kss kts : List (List Int)} {rows rows' : List (List Nat)}
theorem ordd_of (R : RowsOf kss rows) (M : MinUp rows) : Ordd rows (rows.map (srtN kss.length)) := by
  refine ⟨List.length_map _, fun i r m hr hm => ?_, ?_⟩
  · rw [List.getElem?_map, hr] at hm
    cases hm
    exact srt_of (R.low r (List.mem_of_getElem? hr))
  · rw [List.pairwise_map]
    refine M.imp_of_mem fun {r r'} hr hr' h => ?_
    obtain ⟨a, a1, a2, b, b1, b2, ab⟩ := h
    have s := srt_of (R.low r hr)
    have s' := srt_of (R.low r' hr')
    rw [head_min s.1 ((s.2 a).mpr a1) fun x hx => a2 x ((s.2 x).mp hx), head_min s'.1 ((s'.2 b).mpr b1) fun x hx => b2 x ((s'.2 x).mp hx)]
    exact ab
def tabS (kss : List (List Int)) (rows : List (List Nat)) : List (List Int) := rows.map fun r => nums (srtN kss.length r)
theorem tab_same (R : RowsOf kss rows) (R' : RowsOf kts rows') (M : MinUp rows) (M' : MinUp rows') : tabS kss rows = tabS kts rows' ↔ ∀ i j, EqK kts i j ↔ EqK kss i j := by
  rw [← rows_same R R' (ordd_of R M) (ordd_of R' M')]
  unfold tabS
  constructor
  · intro h
    have : (rows.map (srtN kss.length)).map nums = (rows'.map (srtN kts.length)).map nums := by
      rw [List.map_map, List.map_map]
      exact h
    exact (List.map_inj_right fun x y z => nums_inj z).mp this
  · intro h
    have := congrArg (List.map nums) h
    rw [List.map_map, List.map_map] at this
    exact this
theorem one_class (f : Fine 2 kss) (g : Fine 2 kts) (l : kts.length = kss.length) (R : RowsOf kss rows) (R' : RowsOf kts rows') (M : MinUp rows) (M' : MinUp rows') (h : tabS kss rows = tabS kts rows') : (∀ p < kss.length, sureN kss rows p = sureN kts rows' p) ↔ JK kss kts := by
  rw [jk_iff f g l, sure_like f g l R R' ((tab_same R R' M M').mp h)]
theorem not_one (f : Fine 2 kss) (g : Fine 2 kts) (l : kts.length = kss.length) (R : RowsOf kss rows) (R' : RowsOf kts rows') (M : MinUp rows) (M' : MinUp rows') (h : tabS kss rows ≠ tabS kts rows') : ¬ JK kss kts := fun z => by
  refine h ((tab_same R R' M M').mpr fun i j => ?_)
  have := ((jk_iff f g l).mp z).1 i j
  unfold EqK
  rw [l]
  exact this
theorem rows_len (R : RowsOf kss rows) : rows.length ≤ kss.length := by
  have h1 : rows.flatten.length ≤ kss.length := by
    have := List.Nodup.length_le_of_subset R.nd (l₂ := List.range kss.length) fun x hx => by
      obtain ⟨r, hr, hx⟩ := List.mem_flatten.mp hx
      exact List.mem_range.mpr (R.low r hr x hx)
    rwa [List.length_range] at this
  have gen : ∀ ls : List (List Nat), (∀ r ∈ ls, 2 ≤ r.length) → ls.length ≤ ls.flatten.length := by
    intro ls
    induction ls with
    | nil => exact fun _ => Nat.le_refl _
    | cons a ls ih =>
      intro h
      have h1 := ih fun r hr => h r (List.mem_cons_of_mem _ hr)
      have h2 := h a (List.mem_cons_self ..)
      rw [List.flatten_cons, List.length_append, List.length_cons]
      omega
  exact Nat.le_trans (gen rows R.big) h1
theorem RowsAt.get {H : Hp} {p : Addr} {rs : List Addr} (A : RowsAt H p rs rows) {i : Nat} {x : V} (h : (rs.map V.ref)[i]? = some x) : ∃ a r, rs[i]? = some a ∧ x = .ref a ∧ H a = some (.lst (natV r)) ∧ rows[i]? = some r := by
  rw [List.getElem?_map] at h
  cases e : rs[i]? with
  | none => rw [e] at h; cases h
  | some a =>
    rw [e] at h
    cases h
    obtain ⟨r, hr⟩ : ∃ r, rows[i]? = some r := ⟨_, List.getElem?_eq_getElem (by have := (List.getElem?_eq_some_iff.mp e).1; have := A.len; omega)⟩
    exact ⟨a, r, rfl, rfl, A.row i a r e hr, hr⟩
end
end GL

/-! The couples to turn now; two neighbours of a row turned. -/
namespace GL
open PySem PySem.Spec PyProof.Rows
open L2 hiding spCell
section
variable {kus kts : List (List Int)} {rows : List (List Nat)} {a b p q : Nat} {c : Nat × Nat}
/-! ### two neighbours turned -/
def swpN (r : List Nat) (k : Nat) : List Nat := (r.set k (r.getD (k + 1) 0)).set (k + 1) (r.getD k 0)
theorem swp_perm : ∀ (k : Nat) (r : List Nat), k + 1 < r.length → (swpN r k).Perm r
  | 0, a :: b :: l, _ => List.Perm.swap a b l
  | k + 1, a :: r, h => (swp_perm k r (by rw [List.length_cons] at h; omega)).cons a
  | 0, [], h => absurd h (by decide)
  | 0, [a], h => absurd h (Nat.lt_irrefl 1)
  | k + 1, [], h => absurd h (Nat.not_lt_zero _)
theorem swp_get {r : List Nat} {k : Nat} (h : k + 1 < r.length) (i : Nat) : (swpN r k)[i]? = if i = k then r[k + 1]? else if i = k + 1 then r[k]? else r[i]? := by
  unfold swpN
  by_cases e : i = k
  · subst e
    rw [if_pos rfl, List.getElem?_set_ne (by omega), List.getElem?_set_self (by omega), List.getD_eq_getElem?_getD, List.getElem?_eq_getElem h]
    rfl
  · rw [if_neg e]
    by_cases e2 : i = k + 1
    · subst e2
      rw [if_pos rfl, List.getElem?_set_self (by rw [List.length_set]; exact h), List.getD_eq_getElem?_getD, List.getElem?_eq_getElem (show k < r.length by omega)]
      rfl
    · rw [if_neg e2, List.getElem?_set_ne (Ne.symm e2), List.getElem?_set_ne (Ne.symm e)]
theorem idxR_at {r : List Nat} (nd : r.Nodup) {k x : Nat} (h : r[k]? = some x) : r.idxOf x = k := by
  have m := List.mem_of_getElem? h
  have lt := List.idxOf_lt_length_iff.mpr m
  have e : r[r.idxOf x]? = some x := by
    rw [List.getElem?_eq_getElem lt, List.getElem_idxOf lt]
  exact ((List.getElem?_inj lt nd).mp (e.trans h.symm))
end
end GL

/-! Leagues laid by an order of people. -/
namespace GL
open PySem PySem.Spec PyProof.Rows
open L2 hiding spCell
def laidR (os : List Nat) (i : Nat) : List Int := (List.range i).map fun j => if decide (((os.idxOf i : Nat) : Int) < ((os.idxOf j : Nat) : Int)) = true then (1 : Int) else 0
def laidK (m : Nat) (os : List Nat) : List (List Int) := (List.range m).map (laidR os)
theorem laid_len (m : Nat) (os : List Nat) : (laidK m os).length = m := by
  unfold laidK
  rw [List.length_map, List.length_range]
theorem laid_get {m : Nat} {os : List Nat} {i : Nat} (h : i < m) : (laidK m os)[i]? = some (laidR os i) := by
  unfold laidK
  rw [List.getElem?_map, List.getElem?_range h]
  rfl
theorem laid_fine (m : Nat) (os : List Nat) : Fine 2 (laidK m os) := fun i ks h => by
  have hi : i < m := by
    have := (List.getElem?_eq_some_iff.mp h).1
    rwa [laid_len] at this
  rw [laid_get hi] at h
  cases h
  unfold laidR
  refine ⟨by rw [List.length_map, List.length_range], fun z hz => ?_⟩
  obtain ⟨j, _, rfl⟩ := List.mem_map.mp hz
  split <;> omega
/-- who won, by the order -/
theorem laid_won {m : Nat} {os : List Nat} (pm : os.Perm (List.range m)) {i j : Nat} (hi : i < m) (hj : j < m) (ne : i ≠ j) : wonB (laidK m os) i j = decide (os.idxOf i < os.idxOf j) := by
  have nd : os.Nodup := pm.nodup_iff.mpr List.nodup_range
  have mi : i ∈ os := pm.mem_iff.mpr (List.mem_range.mpr hi)
  have mj : j ∈ os := pm.mem_iff.mpr (List.mem_range.mpr hj)
  have inj : os.idxOf i ≠ os.idxOf j := fun z => ne (by
    have e1 := List.getElem_idxOf (List.idxOf_lt_length_iff.mpr mi)
    have e2 := List.getElem_idxOf (List.idxOf_lt_length_iff.mpr mj)
    rw [← e1, ← e2]
    congr 1)
  have cell : ∀ {x y : Nat}, y < x → x < m → tieN (laidK m os) x y = if os.idxOf x < os.idxOf y then 1 else 0 := fun {x y} yx hx => by
    unfold tieN
    rw [show max x y = x by omega, show min x y = y by omega, List.getD_eq_getElem?_getD, List.getD_eq_getElem?_getD, laid_get hx]
    show ((laidR os x)[y]?).getD 0 = _
    unfold laidR
    rw [List.getElem?_map, List.getElem?_range yx]
    show (if decide (((os.idxOf x : Nat) : Int) < ((os.idxOf y : Nat) : Int)) = true then (1 : Int) else 0) = _
    by_cases h : os.idxOf x < os.idxOf y
    · rw [if_pos h, if_pos (decide_eq_true (by omega))]
    · rw [if_neg h, if_neg (fun z => h (by have := of_decide_eq_true z; omega))]
  unfold wonB
  by_cases c : j < i
  · rw [if_pos c, cell c hi]
    by_cases h : os.idxOf i < os.idxOf j
    · rw [if_pos h, decide_eq_true h]
      rfl
    · rw [if_neg h, decide_eq_false h]
      rfl
  · rw [if_neg c, tieN_comm, cell (by omega) hj]
    by_cases h : os.idxOf i < os.idxOf j
    · rw [if_neg (by omega), decide_eq_true h]
      rfl
    · rw [if_pos (by omega), decide_eq_false h]
      rfl
end GL

/-! Two orders of the same people make joined leagues. -/
namespace GL
open PySem PySem.Spec PyProof.Rows
open L2 hiding spCell
structure LaidBy (m : Nat) (os : List Nat) (flip : Nat → Nat → Bool) (K : List (List Int)) : Prop where
  fine : Fine 2 K
  len : K.length = m
  won : ∀ i j, i < m → j < m → i ≠ j → wonB K i j = (decide (os.idxOf i < os.idxOf j) ^^ flip i j)
theorem laid_by {m : Nat} {os : List Nat} (pm : os.Perm (List.range m)) : LaidBy m os (fun _ _ => false) (laidK m os) := ⟨laid_fine m os, laid_len m os, fun i j hi hj ne => by
  rw [laid_won pm hi hj ne, Bool.xor_false]⟩
theorem laid_turn {m a b : Nat} {os : List Nat} (pm : os.Perm (List.range m)) (ab : a < b) (hb : b < m) : LaidBy m os (fun i j => decide (max i j = b ∧ min i j = a)) (turnK (laidK m os) a b) := ⟨turnK_fine (laid_fine m os) ab (by rw [laid_len]; exact hb), by rw [turnK_len, laid_len], fun i j hi hj ne => by
  by_cases h : max i j = b ∧ min i j = a
  · rw [won_turned (laid_fine m os) ab (by rw [laid_len]; exact hb) h, laid_won pm hi hj ne, decide_eq_true h, Bool.xor_true]
  · rw [won_turn (laid_fine m os) ab (by rw [laid_len]; exact hb) h, laid_won pm hi hj ne, decide_eq_false h, Bool.xor_false]⟩
theorem JK.trans {kss kts kus : List (List Int)} (h : JK kss kts) (g : JK kts kus) : JK kss kus := by
  induction g with
  | refl => exact h
  | step _ x y z ih => exact .step ih x y z
theorem won_same {kss kts : List (List Int)} (f : Fine 2 kss) (g : Fine 2 kts) (l : kts.length = kss.length) (h : ∀ i j, i < kss.length → j < kss.length → i ≠ j → wonB kss i j = wonB kts i j) : kss = kts :=
  fine_same f g l fun i j ji hi => Classical.byContradiction fun d => (tie_won f g l hi (by omega) (by omega)).mp d (h i j hi (by omega) (by omega)).symm
theorem swp_jk {m k a b : Nat} {os : List Nat} {flip : Nat → Nat → Bool} {K K' : List (List Int)} (pm : os.Perm (List.range m)) (ha : os[k]? = some a) (hb : os[k + 1]? = some b) (L : LaidBy m os flip K) (L' : LaidBy m (swpN os k) flip K')
    (na : ∀ c, flip a c = false ∧ flip c a = false) (nb : ∀ c, flip b c = false ∧ flip c b = false) : JK K K' := by
  have nd : os.Nodup := pm.nodup_iff.mpr List.nodup_range
  have kl : k + 1 < os.length := (List.getElem?_eq_some_iff.mp hb).1
  have nd' : (swpN os k).Nodup := (swp_perm k os kl).nodup_iff.mpr nd
  have low : ∀ {c}, c ∈ os → c < m := fun h => List.mem_range.mp (pm.mem_iff.mp h)
  have am := low (List.mem_of_getElem? ha)
  have bm := low (List.mem_of_getElem? hb)
  have ia := idxR_at nd ha
  have ib := idxR_at nd hb
  have ab : a ≠ b := fun z => by
    rw [z, ib] at ia
    omega
  have ia' : (swpN os k).idxOf a = k + 1 := idxR_at nd' (by rw [swp_get kl, if_neg (by omega), if_pos rfl]; exact ha)
  have ib' : (swpN os k).idxOf b = k := idxR_at nd' (by rw [swp_get kl, if_pos rfl]; exact hb)
  have at_ : ∀ c, c < m → c ≠ a → c ≠ b → os.idxOf c ≠ k ∧ os.idxOf c ≠ k + 1 ∧ (swpN os k).idxOf c = os.idxOf c := fun c hc ca cb => by
    have mc : c ∈ os := pm.mem_iff.mpr (List.mem_range.mpr hc)
    have lt := List.idxOf_lt_length_iff.mpr mc
    have e : os[os.idxOf c]? = some c := by rw [List.getElem?_eq_getElem lt, List.getElem_idxOf lt]
    have n1 : os.idxOf c ≠ k := fun z => by rw [z, ha] at e; exact ca (Option.some.inj e).symm
    have n2 : os.idxOf c ≠ k + 1 := fun z => by rw [z, hb] at e; exact cb (Option.some.inj e).symm
    exact ⟨n1, n2, idxR_at nd' (by rw [swp_get kl, if_neg n1, if_neg n2]; exact e)⟩
  have lm : min a b < max a b := by omega
  have hm : max a b < K.length := by rw [L.len]; omega
  have al : alikeL K (min a b) (max a b) = true := by
    have h0 : alikeL K a b = true := alikeL_iff.mpr fun c hc ca cb => by
      rw [L.len] at hc
      obtain ⟨n1, n2, _⟩ := at_ c hc ca cb
      rw [L.won c a hc am ca, L.won c b hc bm cb, (na c).2, (nb c).2, ia, ib, Bool.xor_false, Bool.xor_false]
      exact decide_eq_decide.mpr ⟨fun h => by omega, fun h => by omega⟩
    by_cases c : a < b
    · rw [show min a b = a by omega, show max a b = b by omega]
      exact h0
    · rw [show min a b = b by omega, show max a b = a by omega, alikeL_comm]
      exact h0
  have e : turnK K (min a b) (max a b) = K' := by
    refine won_same (turnK_fine L.fine lm hm) L'.fine (by rw [L'.len, turnK_len, L.len]) fun i j hi hj ij => ?_
    rw [turnK_len, L.len] at hi hj
    rw [L'.won i j hi hj ij]
    by_cases c : max i j = max a b ∧ min i j = min a b
    · rw [won_turned L.fine lm hm c, L.won i j hi hj ij]
      have c2 : (i = a ∧ j = b) ∨ (i = b ∧ j = a) := by omega
      rcases c2 with ⟨rfl, rfl⟩ | ⟨rfl, rfl⟩
      · rw [ia, ib, ia', ib', (na j).1, decide_eq_true (show k < k + 1 by omega), decide_eq_false (show ¬ (k + 1 < k) by omega)]
        rfl
      · rw [ia, ib, ia', ib', (nb j).1, decide_eq_true (show k < k + 1 by omega), decide_eq_false (show ¬ (k + 1 < k) by omega)]
        rfl
    · rw [won_turn L.fine lm hm c, L.won i j hi hj ij]
      congr 1
      refine decide_eq_decide.mpr ?_
      by_cases c1 : i = a
      · subst c1
        obtain ⟨n1, n2, e3⟩ := at_ j hj (Ne.symm ij) (fun z => c (by omega))
        rw [ia, ia', e3]
        omega
      · by_cases c2 : i = b
        · subst c2
          obtain ⟨n1, n2, e3⟩ := at_ j hj (fun z => c (by omega)) (Ne.symm ij)
          rw [ib, ib', e3]
          omega
        · obtain ⟨m1, m2, e4⟩ := at_ i hi c1 c2
          rw [e4]
          by_cases c3 : j = a
          · subst c3
            rw [ia, ia']
            omega
          · by_cases c4 : j = b
            · subst c4
              rw [ib, ib']
              omega
            · obtain ⟨_, _, e5⟩ := at_ j hj c3 c4
              rw [e5]
  rw [← e]
  exact .step .refl lm hm al
theorem swpN_at (pre : List Nat) (a b : Nat) (l : List Nat) : swpN (pre ++ a :: b :: l) pre.length = pre ++ b :: a :: l := by
  induction pre with
  | nil => rfl
  | cons c pre ih =>
    show c :: swpN (pre ++ a :: b :: l) pre.length = _
    rw [ih]
    rfl
theorem perm_jk {m : Nat} {flip : Nat → Nat → Bool} {mk : List Nat → List (List Int)} (hmk : ∀ os, os.Perm (List.range m) → LaidBy m os flip (mk os)) {l l' : List Nat} (h : l.Perm l') :
    ∀ (pre post : List Nat), (pre ++ (l ++ post)).Perm (List.range m) → (∀ c ∈ l, ∀ d, flip c d = false ∧ flip d c = false) → JK (mk (pre ++ (l ++ post))) (mk (pre ++ (l' ++ post))) := by
  induction h with
  | nil => exact fun _ _ _ _ => .refl
  | @cons x l l' _ ih =>
    intro pre post pm nf
    have e : ∀ l : List Nat, pre ++ ((x :: l) ++ post) = (pre ++ [x]) ++ (l ++ post) := fun l => by
      rw [List.append_assoc]
      rfl
    rw [e] at pm ⊢
    rw [e]
    exact ih _ _ pm fun c hc => nf c (List.mem_cons_of_mem _ hc)
  | swap x y l =>
    intro pre post pm nf
    have e1 := swpN_at pre y x (l ++ post)
    have pm : (pre ++ y :: x :: (l ++ post)).Perm (List.range m) := pm
    have kl : pre.length + 1 < (pre ++ y :: x :: (l ++ post)).length := by
      rw [List.length_append, List.length_cons, List.length_cons]
      omega
    have g0 : (pre ++ y :: x :: (l ++ post))[pre.length]? = some y := by
      rw [List.getElem?_append_right (Nat.le_refl _), Nat.sub_self]
      rfl
    have g1 : (pre ++ y :: x :: (l ++ post))[pre.length + 1]? = some x := by
      rw [List.getElem?_append_right (by omega), show pre.length + 1 - pre.length = 1 by omega]
      rfl
    refine swp_jk pm g0 g1 (hmk _ pm) ?_ (nf y (List.mem_cons_self ..)) (nf x (List.mem_cons_of_mem _ (List.mem_cons_self ..)))
    rw [e1]
    refine hmk _ ?_
    rw [← e1]
    exact (swp_perm _ _ kl).trans pm
  | @trans l1 l2 l3 h1 _ ih1 ih2 =>
    intro pre post pm nf
    have pm2 : (pre ++ (l2 ++ post)).Perm (List.range m) := (List.Perm.append_left pre (h1.symm.append_right post)).trans pm
    exact (ih1 pre post pm nf).trans (ih2 pre post pm2 fun c hc => nf c (h1.mem_iff.mpr hc))
/-- the order and its reverse -/
theorem laid_rev (m : Nat) : JK (laidK m (List.range m)) (laidK m (List.range m).reverse) := by
  have := perm_jk (m := m) (mk := laidK m) (fun os pm => laid_by pm) (l := List.range m) (l' := (List.range m).reverse) (List.reverse_perm _).symm [] [] (by rw [List.append_nil]; exact .refl _) fun _ _ _ => ⟨rfl, rfl⟩
  rw [List.append_nil, List.append_nil] at this
  exact this
end GL

/-! All leagues of few people, their texts; a search through all that are joined. -/
namespace GL
open PySem PySem.Spec PyProof.Rows
open L2 hiding spCell
def rowsB : Nat → List (List Int)
  | 0 => [[]]
  | n + 1 => (rowsB n).flatMap fun r => [r ++ [0], r ++ [1]]
def allL : Nat → List (List (List Int))
  | 0 => [[]]
  | n + 1 => (allL n).flatMap fun k => (rowsB n).map fun r => k ++ [r]
theorem rowsB_mem : ∀ {n : Nat} {r : List Int}, r.length = n → (∀ z ∈ r, 0 ≤ z ∧ z < 2) → r ∈ rowsB n
  | 0, r, h, _ => by
    rw [List.length_eq_zero_iff.mp h]
    exact List.mem_singleton.mpr rfl
  | n + 1, r, h, b => by
    have ne : r ≠ [] := fun z => by rw [z] at h; cases h
    have e := List.dropLast_concat_getLast ne
    have hz := b _ (List.getLast_mem ne)
    show r ∈ (rowsB n).flatMap fun r => [r ++ [0], r ++ [1]]
    rw [List.mem_flatMap]
    refine ⟨r.dropLast, rowsB_mem (by rw [List.length_dropLast, h]; rfl) (fun z hz => b z (List.dropLast_subset r hz)), ?_⟩
    obtain z | z : r.getLast ne = 0 ∨ r.getLast ne = 1 := by omega
    · rw [z] at e
      rw [e]
      exact List.mem_cons_self ..
    · rw [z] at e
      rw [e]
      exact List.mem_cons_of_mem _ (List.mem_cons_self ..)
theorem allL_mem : ∀ {n : Nat} {k : List (List Int)}, k.length = n → Fine 2 k → k ∈ allL n
  | 0, k, h, _ => by
    rw [List.length_eq_zero_iff.mp h]
    exact List.mem_singleton.mpr rfl
  | n + 1, k, h, f => by
    have ne : k ≠ [] := fun z => by rw [z] at h; cases h
    have e := List.dropLast_concat_getLast ne
    have gl : k[n]? = some (k.getLast ne) := by
      rw [List.getLast_eq_getElem, List.getElem?_eq_getElem (by omega)]
      congr 1
      congr 1
      omega
    obtain ⟨l1, l2⟩ := f n _ gl
    show k ∈ (allL n).flatMap fun k => (rowsB n).map fun r => k ++ [r]
    rw [List.mem_flatMap]
    refine ⟨k.dropLast, allL_mem (by rw [List.length_dropLast, h]; rfl) (fun i ks hi => ?_), List.mem_map.mpr ⟨k.getLast ne, rowsB_mem l1 l2, e⟩⟩
    refine f i ks ?_
    rw [List.getElem?_dropLast] at hi
    split at hi
    · exact hi
    · cases hi
theorem allL_len : ∀ n : Nat, n ≤ 5 → (allL n).length ≤ 1024 := by decide +kernel
def digs (s : Str) : List Nat := s.cps.toList.filter fun c => c == 48 || c == 49
def txtK (k : List (List Int)) : Str := (tabP k).shown
theorem all_digs : ∀ n : Nat, n ≤ 5 → ((allL n).all fun k => decide (digs (txtK k) = k.flatten.map fun z => (48 + z).toNat)) = true := by decide +kernel
end GL

/-! Texts of leagues are told apart; the search through all that are joined. -/
namespace GL
open PySem PySem.Spec PyProof.Rows
open L2 hiding spCell
theorem flat_same : ∀ {k k' : List (List Int)}, k.length = k'.length → (∀ (i : Nat) (r r' : List Int), k[i]? = some r → k'[i]? = some r' → r.length = r'.length) → k.flatten = k'.flatten → k = k'
  | [], [], _, _, _ => rfl
  | [], _ :: _, h, _, _ => nomatch h
  | _ :: _, [], h, _, _ => nomatch h
  | r :: k, r' :: k', h, l, e => by
    rw [List.flatten_cons, List.flatten_cons] at e
    obtain ⟨e1, e2⟩ := List.append_inj e (l 0 r r' rfl rfl)
    rw [e1, flat_same (by rw [List.length_cons, List.length_cons] at h; omega) (fun i a b ha hb => l (i + 1) a b ha hb) e2]
theorem txtK_inj {k k' : List (List Int)} (f : Fine 2 k) (g : Fine 2 k') (l : k'.length = k.length) (h5 : k.length ≤ 5) (e : txtK k = txtK k') : k = k' := by
  have h1 := of_decide_eq_true (List.all_eq_true.mp (all_digs k.length h5) k (allL_mem rfl f))
  have h2 := of_decide_eq_true (List.all_eq_true.mp (all_digs k.length h5) k' (allL_mem l g))
  rw [e, h2] at h1
  have bit : ∀ {k : List (List Int)}, Fine 2 k → ∀ z ∈ k.flatten, 0 ≤ z ∧ z < 2 := fun {k} f z hz => by
    obtain ⟨r, hr, hz⟩ := List.mem_flatten.mp hz
    obtain ⟨i, hi⟩ := List.mem_iff_getElem?.mp hr
    exact (f i r hi).2 z hz
  have ef : k'.flatten = k.flatten := by
    refine List.ext_getElem? fun i => ?_
    have : (k'.flatten.map fun z => (48 + z).toNat)[i]? = (k.flatten.map fun z => (48 + z).toNat)[i]? := by rw [h1]
    rw [List.getElem?_map, List.getElem?_map] at this
    cases e1 : k'.flatten[i]? with
    | none =>
      rw [e1] at this
      cases e2 : k.flatten[i]? with
      | none => rfl
      | some y => rw [e2] at this; cases this
    | some x =>
      rw [e1] at this
      cases e2 : k.flatten[i]? with
      | none => rw [e2] at this; cases this
      | some y =>
        rw [e2] at this
        have this : (48 + x).toNat = (48 + y).toNat := Option.some.inj this
        have bx := bit g x (List.mem_of_getElem? e1)
        have bY := bit f y (List.mem_of_getElem? e2)
        congr 1
        omega
  refine flat_same l.symm (fun i r r' h1 h2 => ?_) ef.symm
  rw [(f i r h1).1, (g i r' h2).1]
/-! ### the search -/
abbrev Lg := List (List Int)
structure Bfs (kss : Lg) (at_ : Nat) (qs : List Lg) : Prop where
  nd : qs.Nodup
  first : qs[0]? = some kss
  jk : ∀ q ∈ qs, JK kss q
  mono : qs.Pairwise fun p q => hamK kss p ≤ hamK kss q
  lim : ∀ q ∈ qs, ∀ p, qs[at_]? = some p → hamK kss q ≤ hamK kss p + 1
  done : ∀ i, i < at_ → ∀ p, qs[i]? = some p → ∀ c ∈ cplL p, turnK p c.1 c.2 ∈ qs
section
variable {kss p : Lg} {qs : List Lg} {n : Nat} {c : Nat × Nat}
theorem cplL_at (h : c ∈ cplL p) : c.1 < c.2 ∧ c.2 < p.length ∧ alikeL p c.1 c.2 = true := by
  obtain ⟨a, b⟩ := c
  obtain ⟨h1, al⟩ := List.mem_filter.mp h
  obtain ⟨_, ab, hb⟩ := (cpl_mem _ _ _ _).mp h1
  exact ⟨ab, hb, al⟩
theorem alikeL_turn {a b : Nat} (f : Fine 2 p) (ab : a < b) (hb : b < p.length) : alikeL (turnK p a b) a b = alikeL p a b := by
  rw [Bool.eq_iff_iff, alikeL_iff, alikeL_iff, turnK_len]
  constructor
  · intro h m hm ma mb
    have := h m hm ma mb
    rw [won_turn f ab hb (by omega), won_turn f ab hb (by omega)] at this
    exact this
  · intro h m hm ma mb
    rw [won_turn f ab hb (by omega), won_turn f ab hb (by omega)]
    exact h m hm ma mb
theorem turn_turn {a b : Nat} (f : Fine 2 p) (ab : a < b) (hb : b < p.length) : turnK (turnK p a b) a b = p := by
  have f2 := turnK_fine f ab hb
  have hb2 : b < (turnK p a b).length := by rw [turnK_len]; exact hb
  refine won_same (turnK_fine f2 ab hb2) f (by rw [turnK_len, turnK_len]) fun i j hi hj ne => ?_
  by_cases h : max i j = b ∧ min i j = a
  · rw [won_turned f2 ab hb2 h, won_turned f ab hb h, Bool.not_not]
  · rw [won_turn f2 ab hb2 h, won_turn f ab hb h]
theorem bfs_close (f : Fine 2 kss) (B : Bfs kss n qs) (hp : qs[n]? = some p) : ∀ (d : Nat) {z : Lg}, JK kss z → hamK kss z = d → d ≤ hamK kss p → z ∈ qs
  | 0, z, J, e, _ => by
    rw [← (ham_zero f (J.fine f) J.len).mp e]
    exact List.mem_of_getElem? B.first
  | d + 1, z, J, e, le => by
    have fz := J.fine f
    have lz := J.len
    have Lz : LikeK z kss := by
      have := J.like f
      unfold LikeK at this ⊢
      rw [lz]
      exact this.symm
    have ne : z ≠ kss := fun y => by
      rw [y, (ham_zero f f rfl).mpr rfl] at e
      cases e
    obtain ⟨c, hc, u⟩ := like_couple fz f lz.symm Lz ne
    obtain ⟨c1, c2, al⟩ := cplL_at hc
    have less := ham_less fz f lz.symm c1 c2 u
    have Jz : JK kss (turnK z c.1 c.2) := J.step c1 c2 al
    have l1 : hamK z kss = hamK kss z := ham_comm lz.symm
    have l2 : hamK (turnK z c.1 c.2) kss = hamK kss (turnK z c.1 c.2) := ham_comm (by rw [turnK_len]; exact lz.symm)
    have hm := bfs_close f B hp d Jz (by omega) (by omega)
    obtain ⟨i, hi⟩ := List.mem_iff_getElem?.mp hm
    have i_n : i < n := by
      refine Nat.lt_of_not_le fun ni => ?_
      have : hamK kss p ≤ hamK kss (turnK z c.1 c.2) := by
        by_cases e2 : i = n
        · subst e2
          rw [hp] at hi
          rw [Option.some.inj hi]
          exact Nat.le_refl _
        · have g1 := List.getElem?_eq_some_iff.mp hp
          have g2 := List.getElem?_eq_some_iff.mp hi
          have := List.pairwise_iff_getElem.mp B.mono n i g1.1 g2.1 (by omega)
          rw [g1.2, g2.2] at this
          exact this
      omega
    have mc : c ∈ cplL (turnK z c.1 c.2) := List.mem_filter.mpr ⟨(cpl_mem _ _ _ _).mpr (by rw [turnK_len]; omega), by rw [alikeL_turn fz c1 c2]; exact al⟩
    have := B.done i i_n _ hi c mc
    rw [turn_turn fz c1 c2] at this
    exact this
theorem bfs_start : Bfs kss 0 [kss] := ⟨List.nodup_cons.mpr ⟨by simp, .nil⟩, rfl, fun q hq => by rw [List.mem_singleton.mp hq]; exact .refl, .cons (by simp) .nil, fun q hq p hp => by
  rw [List.mem_singleton.mp hq]
  cases hp
  omega, fun i hi => absurd hi (Nat.not_lt_zero _)⟩
theorem bfs_new (f : Fine 2 kss) (B : Bfs kss n qs) (hp : qs[n]? = some p) (hc : c ∈ cplL p) (no : turnK p c.1 c.2 ∉ qs) : hamK kss (turnK p c.1 c.2) = hamK kss p + 1 ∧ Bfs kss n (qs ++ [turnK p c.1 c.2]) := by
  have J := B.jk p (List.mem_of_getElem? hp)
  have fp := J.fine f
  have lp := J.len
  obtain ⟨c1, c2, al⟩ := cplL_at hc
  have Jx : JK kss (turnK p c.1 c.2) := J.step c1 c2 al
  have l1 : hamK p kss = hamK kss p := ham_comm lp.symm
  have l2 : hamK (turnK p c.1 c.2) kss = hamK kss (turnK p c.1 c.2) := ham_comm (by rw [turnK_len]; exact lp.symm)
  have hx : hamK kss (turnK p c.1 c.2) = hamK kss p + 1 := by
    cases u : unl p kss (c.1, c.2) with
    | true =>
      have less := ham_less fp f lp.symm c1 c2 u
      exact absurd (bfs_close f B hp _ Jx rfl (by omega)) no
    | false =>
      have more := ham_more fp f lp.symm c1 c2 u
      omega
  have at_ : (qs ++ [turnK p c.1 c.2])[n]? = some p := by
    rw [List.getElem?_append_left (List.getElem?_eq_some_iff.mp hp).1]
    exact hp
  refine ⟨hx, ?_, ?_, ?_, ?_, ?_, ?_⟩
  · rw [List.nodup_append]
    exact ⟨B.nd, List.nodup_cons.mpr ⟨by simp, .nil⟩, fun a ha b hb e => by
      rw [List.mem_singleton.mp hb] at e
      exact no (e ▸ ha)⟩
  · rw [List.getElem?_append_left (List.getElem?_eq_some_iff.mp B.first).1]
    exact B.first
  · intro q hq
    rcases List.mem_append.mp hq with h | h
    · exact B.jk q h
    · rw [List.mem_singleton.mp h]
      exact Jx
  · rw [List.pairwise_append]
    refine ⟨B.mono, .cons (by simp) .nil, fun a ha b hb => ?_⟩
    rw [List.mem_singleton.mp hb, hx]
    exact B.lim a ha p hp
  · intro q hq p' hp'
    rw [at_] at hp'
    cases hp'
    rcases List.mem_append.mp hq with h | h
    · exact B.lim q h p hp
    · rw [List.mem_singleton.mp h, hx]
      exact Nat.le_refl _
  · intro i hi p' hp' c' hc'
    have lt := (List.getElem?_eq_some_iff.mp hp).1
    rw [List.getElem?_append_left (by omega)] at hp'
    exact List.mem_append_left _ (B.done i hi p' hp' c' hc')
theorem bfs_next (B : Bfs kss n qs) (hp : qs[n]? = some p) (all : ∀ c ∈ cplL p, turnK p c.1 c.2 ∈ qs) : Bfs kss (n + 1) qs := by
  refine ⟨B.nd, B.first, B.jk, B.mono, fun q hq p' hp' => ?_, fun i hi p' hp' => ?_⟩
  · have h1 := B.lim q hq p hp
    have g1 := List.getElem?_eq_some_iff.mp hp
    have g2 := List.getElem?_eq_some_iff.mp hp'
    have := List.pairwise_iff_getElem.mp B.mono n (n + 1) g1.1 g2.1 (Nat.lt_succ_self n)
    rw [g1.2, g2.2] at this
    omega
  · by_cases e : i = n
    · subst e
      rw [hp] at hp'
      cases hp'
      exact all
    · exact B.done i (by omega) p' hp'
theorem bfs_all (f : Fine 2 kss) (B : Bfs kss n qs) (hn : qs.length ≤ n) {z : Lg} : z ∈ qs ↔ JK kss z := by
  refine ⟨fun h => B.jk z h, fun h => ?_⟩
  induction h with
  | refl => exact List.mem_of_getElem? B.first
  | @step kts a b J ab hb al ih =>
    obtain ⟨i, hi⟩ := List.mem_iff_getElem?.mp ih
    have lt := (List.getElem?_eq_some_iff.mp hi).1
    exact B.done i (by omega) kts hi (a, b) (List.mem_filter.mpr ⟨(cpl_mem _ _ _ _).mpr ⟨by omega, ab, hb⟩, al⟩)
theorem bfs_len (f : Fine 2 kss) (h5 : kss.length ≤ 5) (B : Bfs kss n qs) : qs.length ≤ 1024 := by
  have := List.Nodup.length_le_of_subset B.nd (l₂ := allL kss.length) fun q hq => allL_mem (B.jk q hq).len ((B.jk q hq).fine f)
  exact Nat.le_trans this (allL_len _ h5)
end
end GL

/-! The search in a heap. -/
namespace GL
open PySem PySem.Spec PyProof.Rows
open L2 hiding spCell
def hdW (H : Hp) (a b g : Addr) : Hp := fun x => if x = a ∨ x = b ∨ x = g then none else H x
theorem hdW_le {H : Hp} {a b g : Addr} : Same (hdW H a b g) H := fun x o e => by
  unfold hdW at e
  split at e
  · cases e
  · exact e
theorem hdW_mono {H H' : Hp} {a b g : Addr} (s : Same H H') : Same (hdW H a b g) (hdW H' a b g) := fun x o e => by
  unfold hdW at e ⊢
  split at e
  · cases e
  · rename_i h
    rw [if_neg h]
    exact s _ _ e
theorem hdW_a {H : Hp} {a b g : Addr} {o : HO} : hdW (upd H a o) a b g = hdW H a b g := by
  funext x
  unfold hdW
  by_cases h : x = a ∨ x = b ∨ x = g
  · rw [if_pos h, if_pos h]
  · rw [if_neg h, if_neg h, upd_ne (fun z => h (.inl z))]
theorem hdW_b {H : Hp} {a b g : Addr} {o : HO} : hdW (upd H b o) a b g = hdW H a b g := by
  funext x
  unfold hdW
  by_cases h : x = a ∨ x = b ∨ x = g
  · rw [if_pos h, if_pos h]
  · rw [if_neg h, if_neg h, upd_ne (fun z => h (.inr (.inl z)))]
theorem hdW_in {H : Hp} {a b g x : Addr} {o : HO} (e : H x = some o) (xa : x ≠ a) (xb : x ≠ b) (xg : x ≠ g) : hdW H a b g x = some o := by
  unfold hdW
  rw [if_neg (fun z => z.elim xa fun y => y.elim xb xg)]
  exact e
theorem tab_hdW {H : Hp} {a b g p : Addr} {ps : List Addr} {z : List (List Int)} (t : Tab H p ps z) (pa : p ≠ a) (pb : p ≠ b) (pg : p ≠ g) (h : ∀ r ∈ ps, r ≠ a ∧ r ≠ b ∧ r ≠ g) : Tab (hdW H a b g) p ps z :=
  ⟨hdW_in t.top pa pb pg, t.len, fun i r ks g1 g2 => hdW_in (t.row i r ks g1 g2) (h r (List.mem_of_getElem? g1)).1 (h r (List.mem_of_getElem? g1)).2.1 (h r (List.mem_of_getElem? g1)).2.2, t.nd⟩
def kD (kss : Lg) (qs : List Lg) : List (Key × V) := qs.map fun z => ((Sum.inr (txtK z) : Key), V.int ((hamK kss z : Nat) : Int))
theorem kD_in {kss z : Lg} {qs : List Lg} (inj : ∀ q ∈ qs, txtK q = txtK z → q = z) (h : z ∈ qs) : valV (kD kss qs) (Sum.inr (txtK z)) = some (V.int ((hamK kss z : Nat) : Int)) := by
  induction qs with
  | nil => cases h
  | cons q qs ih =>
    by_cases e : txtK q = txtK z
    · rw [← inj q (List.mem_cons_self ..) e]
      exact valV_pos (p := ((Sum.inr (txtK q) : Key), V.int ((hamK kss q : Nat) : Int))) rfl
    · rw [show kD kss (q :: qs) = ((Sum.inr (txtK q) : Key), V.int ((hamK kss q : Nat) : Int)) :: kD kss qs from rfl, valV_neg (fun y => e (Sum.inr.inj y))]
      refine ih (fun q' hq => inj q' (List.mem_cons_of_mem _ hq)) ((List.mem_cons.mp h).resolve_left fun y => e (by rw [y]))
theorem kD_out {kss z : Lg} {qs : List Lg} (inj : ∀ q ∈ qs, txtK q = txtK z → q = z) (h : z ∉ qs) : valV (kD kss qs) (Sum.inr (txtK z)) = none := by
  induction qs with
  | nil => rfl
  | cons q qs ih =>
    have e : txtK q ≠ txtK z := fun e => h (by rw [← inj q (List.mem_cons_self ..) e]; exact List.mem_cons_self ..)
    rw [show kD kss (q :: qs) = ((Sum.inr (txtK q) : Key), V.int ((hamK kss q : Nat) : Int)) :: kD kss qs from rfl, valV_neg (fun y => e (Sum.inr.inj y))]
    exact ih (fun q' hq => inj q' (List.mem_cons_of_mem _ hq)) fun y => h (List.mem_cons_of_mem _ y)
structure WkF (H H' : Hp) (Qa D g : Addr) (kss : Lg) (ads : List Addr) (qs : List Lg) : Prop where
  same : Same H H'
  top : H' Qa = some (.lst (ads.map V.ref))
  len : ads.length = qs.length
  tab : ∀ (i : Nat) (ad : Addr) (z : Lg), ads[i]? = some ad → qs[i]? = some z → ∃ rs, Tab (hdW H' Qa D g) ad rs z
  known : H' D = some (.dK (kD kss qs))
section
variable {H H' H2 : Hp} {Qa D g : Addr} {kss z : Lg} {ads : List Addr} {qs : List Lg}
theorem tab_of_hdW {ad : Addr} {rs : List Addr} (t : Tab (hdW H' Qa D g) ad rs z) : Tab H' ad rs z := t.same hdW_le
theorem WkF.fwd (W : WkF H H' Qa D g kss ads qs) (s : Same H' H2) : WkF H H2 Qa D g kss ads qs :=
  ⟨W.same.trans s, s _ _ W.top, W.len, fun i ad z h1 h2 => by
    obtain ⟨rs, t⟩ := W.tab i ad z h1 h2
    exact ⟨rs, t.same (hdW_mono s)⟩, s _ _ W.known⟩
theorem WkF.at (W : WkF H H' Qa D g kss ads qs) {i : Nat} (h : qs[i]? = some z) : ∃ ad rs, ads[i]? = some ad ∧ Tab H' ad rs z := by
  obtain ⟨ad, ha⟩ : ∃ ad, ads[i]? = some ad := ⟨_, List.getElem?_eq_getElem (by rw [W.len]; exact (List.getElem?_eq_some_iff.mp h).1)⟩
  obtain ⟨rs, t⟩ := W.tab i ad z ha h
  exact ⟨ad, rs, ha, tab_of_hdW t⟩
theorem WkF.push (W : WkF H H' Qa D g kss ads qs) (nQ : H Qa = none) (nD : H D = none) (QD : Qa ≠ D) (inj : ∀ q ∈ qs, txtK q = txtK z → q = z) (no : z ∉ qs) {p : Addr} {ps : List Addr} (t : Tab (hdW H' Qa D g) p ps z) :
    WkF H (upd (upd H' D (.dK (putK (kD kss qs) (Sum.inr (txtK z)) (V.int ((hamK kss z : Nat) : Int))))) Qa (.lst (ads.map V.ref ++ [V.ref p]))) Qa D g kss (ads ++ [p]) (qs ++ [z]) := by
  refine ⟨fun b o e => ?_, by rw [upd_same, List.map_append]; rfl, by rw [List.length_append, List.length_append, W.len]; rfl, fun i ad y h1 h2 => ?_, ?_⟩
  · rw [upd_ne (ne_of_none e nQ), upd_ne (ne_of_none e nD)]
    exact W.same _ _ e
  · rw [hdW_a, hdW_b]
    by_cases c : i < ads.length
    · rw [List.getElem?_append_left c] at h1
      rw [List.getElem?_append_left (by rw [← W.len]; exact c)] at h2
      exact W.tab i ad y h1 h2
    · have := (List.getElem?_eq_some_iff.mp h1).1
      rw [List.length_append, List.length_singleton] at this
      have e : i = ads.length := by omega
      subst e
      rw [List.getElem?_concat_length] at h1
      rw [W.len, List.getElem?_concat_length] at h2
      cases h1
      cases h2
      exact ⟨ps, t⟩
  · rw [upd_ne (Ne.symm QD), upd_same, putK_new (kD_out inj no)]
    unfold kD
    rw [List.map_append]
    rfl
theorem WkF.push' (W : WkF H H' Qa D g kss ads qs) (nQ : H Qa = none) (nD : H D = none) (QD : Qa ≠ D) (inj : ∀ q ∈ qs, txtK q = txtK z → q = z) (no : z ∉ qs) {p : Addr} {ps : List Addr} (t : Tab (hdW H' Qa D g) p ps z) {v : V} (hv : v = V.int ((hamK kss z : Nat) : Int)) :
    WkF H (upd (upd H' D (.dK (putK (kD kss qs) (Sum.inr (txtK z)) v))) Qa (.lst (ads.map V.ref ++ [V.ref p]))) Qa D g kss (ads ++ [p]) (qs ++ [z]) := by
  subst hv
  exact W.push nQ nD QD inj no t
theorem alike_rowsT : ∀ xs ys : List (List Int), PySem.W.alikeAll (xs.map rowP) (ys.map rowP) = true
  | [], _ => by simp [PySem.W.alikeAll]
  | _ :: _, [] => by simp [PySem.W.alikeAll]
  | x :: xs, y :: ys => by
    rw [List.map_cons, List.map_cons, PySem.W.alikeAll, alike_rowsT xs ys, Bool.and_true]
    unfold rowP
    simp only [PySem.W.alike]
    exact PySem.W.alike_ints x y
theorem alike_tabs (x y : Lg) : PySem.W.alike (tabP x) (tabP y) = true := by
  unfold tabP
  simp only [PySem.W.alike]
  exact alike_rowsT x y
def qD (x : Addr × Lg) : V × PyData := (.ref x.1, tabP x.2)
theorem WkF.zipG (W : WkF H H' Qa D g kss ads qs) {x : Addr × Lg} (h : x ∈ ads.zip qs) : ∃ rs, Tab (hdW H' Qa D g) x.1 rs x.2 := by
  obtain ⟨i, hi⟩ := List.mem_iff_getElem?.mp h
  rw [List.getElem?_zip_eq_some] at hi
  exact W.tab i x.1 x.2 hi.1 hi.2
theorem hdW_hid : Same (hdW H Qa D g) (GL.hid H g) := fun x o e => by
  unfold hdW at e
  split at e
  · cases e
  · rename_i h
    unfold GL.hid
    rw [if_neg fun z => h (.inr (.inr z))]
    exact e
theorem WkF.zip (W : WkF H H' Qa D g kss ads qs) {x : Addr × Lg} (h : x ∈ ads.zip qs) : ∃ rs, Tab H' x.1 rs x.2 := by
  obtain ⟨i, hi⟩ := List.mem_iff_getElem?.mp h
  rw [List.getElem?_zip_eq_some] at hi
  obtain ⟨rs, t⟩ := W.tab i x.1 x.2 hi.1 hi.2
  exact ⟨rs, tab_of_hdW t⟩
theorem WkF.fst (W : WkF H H' Qa D g kss ads qs) : ((ads.zip qs).map qD).map (·.1) = ads.map V.ref := by
  rw [List.map_map, show ((fun b : V × PyData => b.1) ∘ qD) = (V.ref ∘ fun x : Addr × Lg => x.1) from rfl, ← List.map_map, List.map_fst_zip (Nat.le_of_eq W.len)]
theorem WkF.sorted (W : WkF H H' Qa D g kss ads qs) (K : PySem.W.Frag) (le : V × PyData → V × PyData → Bool) {p : Addr} (hp : H' p = none) :
    ∃ qs' : List Lg, qs'.Perm qs ∧ (p ≠ g → Dt K (GL.hid (upd H' p (.lst ((((ads.zip qs).map qD).mergeSort le).map (·.1)))) g) (.ref p) (.list (qs'.map tabP))) := by
  obtain ⟨m, pz, e⟩ := perm_map_back qD (List.mergeSort_perm ((ads.zip qs).map qD) le)
  refine ⟨m.map (·.2), ?_, ?_⟩
  · have := pz.map (·.2)
    rwa [List.map_snd_zip (Nat.le_of_eq W.len.symm)] at this
  · rw [e]
    intro pg
    have each : ∀ x ∈ m, ∃ rs, Tab (GL.hid (upd H' p (.lst ((m.map qD).map (·.1)))) g) x.1 rs x.2 := fun x hx => by
      obtain ⟨rs, t⟩ := W.zipG (pz.mem_iff.mp hx)
      exact ⟨rs, (t.same (hdW_mono (same_new hp))).same hdW_hid⟩
    have dts : ∀ l : List (Addr × Lg), (∀ x ∈ l, x ∈ m) → Dts K (GL.hid (upd H' p (.lst ((m.map qD).map (·.1)))) g) ((l.map qD).map (·.1)) ((l.map (·.2)).map tabP) := by
      intro l
      induction l with
      | nil => exact fun _ => .nil
      | cons x l ih =>
        intro h
        obtain ⟨rs, t⟩ := each x (h x (List.mem_cons_self ..))
        exact .cons t.dt (ih fun y hy => h y (List.mem_cons_of_mem _ hy))
    exact .lst (by unfold GL.hid; rw [if_neg pg]; exact upd_same) (dts m fun _ h => h)
end
end GL

/-! The two great leagues are joined; how many of their results are unlike. -/
namespace GL
open PySem PySem.Spec PyProof.Rows
open L2 hiding spCell
theorem low3 : laidK 3 (List.range 3) = [[], [0], [0, 0]] := by decide +kernel
theorem high3 : laidK 3 (List.range 3).reverse = [[], [1], [1, 1]] := by decide +kernel
theorem jk3 : JK [[], [0], [0, 0]] [[], [1], [1, 1]] := by
  have := laid_rev 3
  rw [low3, high3] at this
  exact this
theorem low40 : laidK 40 (List.range 40) = (List.range 40).map fun i => List.replicate i 0 := by decide +kernel
theorem high40 : laidK 40 (List.range 40).reverse = (List.range 40).map fun i => List.replicate i 1 := by decide +kernel
end GL

/-! People under other names: a league on places, its people named upwards by w. -/
namespace GL
open PySem PySem.Spec PyProof.Rows
open L2 hiding spCell
structure Up (w : Nat → Nat) (n : Nat) : Prop where
  lt : ∀ i j, i < j → j < n → w i < w j
  low : ∀ i, i < n → w i < 1000
section
variable {w : Nat → Nat} {n i j m m' : Nat} {kss : List (List Int)} {rows : List (List Nat)}
theorem up_id (h : n ≤ 1000) : Up (fun p => p) n := ⟨fun _ _ h _ => h, fun i hi => by omega⟩
theorem Up.inj (U : Up w n) (hi : i < n) (hj : j < n) (e : w i = w j) : i = j := by
  by_cases c : i < j
  · have := U.lt i j c hj
    omega
  by_cases c2 : j < i
  · have := U.lt j i c2 hi
    omega
  omega
theorem Up.le (U : Up w n) (h : i ≤ j) (hj : j < n) : w i ≤ w j := by
  by_cases c : i < j
  · exact Nat.le_of_lt (U.lt i j c hj)
  · have : i = j := by omega
    subst this
    exact Nat.le_refl _
/-- bits of places as bits of names -/
def liftW (w : Nat → Nat) (n m : Nat) : Nat := bitsN (((List.range n).filter fun j => m.testBit j).map w)
theorem lift_at (U : Up w n) (hj : j < n) : (liftW w n m).testBit (w j) = m.testBit j := by
  unfold liftW
  rw [bitsN_bit]
  rw [Bool.eq_iff_iff, decide_eq_true_iff, List.mem_map]
  constructor
  · rintro ⟨i, hi, e⟩
    obtain ⟨h1, h2⟩ := List.mem_filter.mp hi
    rw [← U.inj (List.mem_range.mp h1) hj e]
    exact h2
  · exact fun h => ⟨j, List.mem_filter.mpr ⟨List.mem_range.mpr hj, h⟩, rfl⟩
theorem lift_out {x : Nat} (h : ∀ j, j < n → w j ≠ x) : (liftW w n m).testBit x = false := by
  unfold liftW
  rw [bitsN_bit]
  refine decide_eq_false fun z => ?_
  obtain ⟨i, hi, e⟩ := List.mem_map.mp z
  exact h i (List.mem_range.mp (List.mem_filter.mp hi).1) e
/-- a number whose bits are those of names -/
theorem lift_of (U : Up w n) {z : Nat} (h1 : ∀ j, j < n → z.testBit (w j) = m.testBit j) (h2 : ∀ x, (∀ j, j < n → w j ≠ x) → z.testBit x = false) : z = liftW w n m := by
  refine Nat.eq_of_testBit_eq fun x => ?_
  by_cases c : ∃ j, j < n ∧ w j = x
  · obtain ⟨j, hj, rfl⟩ := c
    rw [h1 j hj, lift_at U hj]
  · have c' : ∀ j, j < n → w j ≠ x := fun j hj e => c ⟨j, hj, e⟩
    rw [h2 x c', lift_out c']
theorem lift_congr (h : ∀ j, j < n → m.testBit j = m'.testBit j) : liftW w n m = liftW w n m' := by
  unfold liftW
  congr 2
  exact List.filter_congr fun j hj => h j (List.mem_range.mp hj)
theorem liftW_same (U : Up w n) : liftW w n m = liftW w n m' ↔ ∀ j, j < n → m.testBit j = m'.testBit j :=
  ⟨fun e j hj => by rw [← lift_at U hj, e, lift_at U hj], lift_congr⟩
theorem lift_or (U : Up w n) {b : Nat} (hb : b < n) : liftW w n m ||| 2 ^ w b = liftW w n (m ||| 2 ^ b) := by
  refine lift_of U (fun j hj => ?_) fun x hx => ?_
  · rw [or_pow, or_pow, lift_at U hj]
    congr 1
    exact decide_eq_decide.mpr ⟨fun e => U.inj hb hj e, fun e => by rw [e]⟩
  · rw [or_pow, lift_out hx, decide_eq_false (hx b hb)]
    rfl
theorem lift_id (h : ∀ j, n ≤ j → m.testBit j = false) (l : n ≤ 1000) : liftW (fun p => p) n m = m :=
  (lift_of (up_id l) (fun j hj => rfl) fun x hx => h x (Nat.le_of_not_lt fun z => hx x z rfl)).symm
/-- less some rows' people -/
theorem lift_less (U : Up w n) {r : List Nat} (low : ∀ x ∈ r, x < n) {z z' : Nat} (hz : ∀ x, z.testBit x = ((liftW w n m).testBit x && !(bitsN (r.map w)).testBit x)) (hz' : ∀ x, z'.testBit x = (m.testBit x && !(bitsN r).testBit x)) : z = liftW w n z' := by
  refine lift_of U (fun j hj => ?_) fun x hx => ?_
  · rw [hz, hz', lift_at U hj, bitsN_bit, bitsN_bit]
    congr 2
    refine decide_eq_decide.mpr ⟨fun h => ?_, fun h => List.mem_map_of_mem h⟩
    obtain ⟨i, hi, e⟩ := List.mem_map.mp h
    rw [← U.inj (low i hi) hj e]
    exact hi
  · rw [hz, lift_out hx, Bool.false_and]
/-! ### whom each beat, by names -/
def beatF (w : Nat → Nat) (kss : List (List Int)) (i : Nat) : Nat := liftW w kss.length (beatN kss i)
theorem beatF_id (n40 : kss.length ≤ 1000) (hi : i < kss.length) : beatF (fun p => p) kss i = beatN kss i := lift_id (fun j hj => beatN_out hi (by omega)) n40
theorem or_out (hi : i < kss.length) (hj : kss.length ≤ j) : (beatN kss i ||| 2 ^ i).testBit j = false := by
  rw [or_pow, beatN_out hi (by omega), decide_eq_false (by omega)]
  rfl
theorem eq_low {a b : Nat} (ha : ∀ j, n ≤ j → a.testBit j = false) (hb : ∀ j, n ≤ j → b.testBit j = false) : (∀ j, j < n → a.testBit j = b.testBit j) ↔ a = b := by
  constructor
  · intro h
    refine Nat.eq_of_testBit_eq fun j => ?_
    by_cases c : j < n
    · exact h j c
    · rw [ha j (by omega), hb j (by omega)]
  · rintro rfl j _
    rfl
theorem next_F (U : Up w kss.length) {a b : Nat} (ha : a < kss.length) (hb : b < kss.length) : beatF w kss a = beatF w kss b ||| 2 ^ w b ↔ beatN kss a = beatN kss b ||| 2 ^ b := by
  unfold beatF
  rw [lift_or U hb, liftW_same U]
  exact eq_low (fun j hj => beatN_out ha (by omega)) fun j hj => or_out hb hj
theorem with_injF (U : Up w kss.length) (f : Fine 2 kss) {a b : Nat} (ha : a < kss.length) (hb : b < kss.length) (e : beatF w kss a ||| 2 ^ w a = beatF w kss b ||| 2 ^ w b) : a = b := by
  unfold beatF at e
  rw [lift_or U ha, lift_or U hb, liftW_same U, eq_low (fun j hj => or_out ha hj) fun j hj => or_out hb hj] at e
  exact with_inj f ha hb e
theorem find_same {α : Type} {p q : α → Bool} : ∀ {l : List α}, (∀ x ∈ l, p x = q x) → l.find? p = l.find? q
  | [], _ => rfl
  | x :: l, h => by
    rw [List.find?_cons, List.find?_cons, h x (List.mem_cons_self ..), find_same fun y hy => h y (List.mem_cons_of_mem _ hy)]
theorem with_valF (U : Up w kss.length) (hi : i < kss.length) : valV (dG kss.length (fun p => beatF w kss p ||| 2 ^ w p) w) (Sum.inl ((beatF w kss i : Nat) : Int)) = (nextP kss i).map fun q => V.int ((w q : Nat) : Int) := by
  rw [dG_val]
  unfold nextP
  congr 1
  refine find_same fun q hq => decide_eq_decide.mpr ?_
  rw [eq_comm]
  exact next_F U hi (List.mem_range.mp hq)
def nextsW (w : Nat → Nat) (kss : List (List Int)) (m : Nat) : List (Nat × Nat) := (nextsTo kss m).map fun c => (w c.1, w c.2)
theorem nextsW_more (i : Nat) : nextsW w kss (i + 1) = nextsW w kss i ++ ((nextP kss i).map fun q => (w i, w q)).toList := by
  unfold nextsW
  rw [nexts_more, List.map_append]
  cases nextP kss i <;> rfl
theorem nextsW_len (i : Nat) : (nextsW w kss i).length ≤ i := by
  unfold nextsW
  rw [List.length_map]
  exact nexts_len kss i
theorem nextsW_new (U : Up w kss.length) (hi : i < kss.length) : ∀ c ∈ nextsW w kss i, c.1 ≠ w i := fun c hc e => by
  obtain ⟨d, hd, rfl⟩ := List.mem_map.mp hc
  have h := (nexts_mem (p := d.1) (q := d.2)).mp hd
  have := U.lt d.1 i h.1 hi
  omega
theorem nextsW_id (m : Nat) : nextsW (fun p => p) kss m = nextsTo kss m := by
  unfold nextsW
  rw [show (fun c : Nat × Nat => (c.1, c.2)) = id from rfl, List.map_id]
def spNextF : Sp := fun vs H Q _ => ∃ (d : Addr) (kss : List (List Int)) (w : Nat → Nat), vs = [.ref d] ∧ H d = some (.dK (dG kss.length w (beatF w kss))) ∧ Fine 2 kss ∧ kss.length ≤ 40 ∧ Up w kss.length ∧
  ∀ (e : Addr) (H' : Hp), Same H H' → H e = none → H' e = some (.dK (dP (nextsW w kss kss.length))) → Q (.ref e) H'
end
end GL

namespace K58
open PySem PySem.Spec PyProof.Rows
open L2 hiding spCell
open GL
section
variable {P : Program} {w : World} {K : PySem.W.Frag} {mg : Str → Option Value} {base : Heap}
abbrev sNextF : Stmt := topS 18
abbrev nNextF : List Str := ["beaten", "with_these", "person", "bits"]
theorem scNextF : FnScope nNextF ["beaten"] (defScope sNextF) := ⟨rfl, rfl, rfl, by decide +kernel, rfl, by decide +kernel, by decide +kernel⟩
theorem ok_nextF {f : Addr} {fd : FuncData} (F : Fun K "next_in_rows" "next_in_rows" sNextF f fd) (T : Bi mg) : FnOk P w K mg base CX0 1 f fd ["beaten"] spNextF := by
  refine F.ok scNextF (fun vs H Q E h => ?_) (fun cdv A outer s H vs Q E hr h => ?_)
  · obtain ⟨d, kss, w, rfl, _⟩ := h
    rfl
  · obtain ⟨d, kss, w, rfl, hd, fine, n40, U, q⟩ := h
    refine ⟨_, (pss_cons (ps_set (i := 1) scNextF.nd rfl (Or.inr rfl) (pe_lock (pe_dc (own := [("person", 2), ("bits", 3)]) (g := (gTup K 2 (gCons (gName 2) (gCons (gName 3) gNil)))) rfl scNextF.nd (pi_items (pv 0)) (blkOk_by (N := nNextF) (sc := (defScope sNextF)) (by decide +kernel)) (fun _ _ _ _ _ => (pg_tup rfl (pgs_cons (pg_name (i := 2) scNextF.nd rfl (Or.inl rfl)) (pgs_cons (pg_name (i := 3) scNextF.nd rfl (Or.inl rfl)) pgs_nil)))) (fun _ _ _ _ _ => by exact pts_nil) (fun _ _ _ _ _ => by exact (pe_op opN_or (pv 3) (pe_op opN_shl pe_int (pv 2)))) (fun _ _ _ _ _ => by exact (pv 2)))))
      (pss_one (ps_ret (pe_lock (pe_dc (own := [("person", 2), ("bits", 3)]) (g := (gTup K 2 (gCons (gName 2) (gCons (gName 3) gNil)))) rfl scNextF.nd (pi_items (pv 0)) (blkOk_by (N := nNextF) (sc := (defScope sNextF)) (by decide +kernel)) (fun _ _ _ _ _ => (pg_tup rfl (pgs_cons (pg_name (i := 2) scNextF.nd rfl (Or.inl rfl)) (pgs_cons (pg_name (i := 3) scNextF.nd rfl (Or.inl rfl)) pgs_nil)))) (fun _ _ _ _ _ => by exact (pts_one (pt_cmp (pc_din (hu_of hr) (pv 3) (pv 1))))) (fun _ _ _ _ _ => by exact (pv 2)) (fun _ _ _ _ _ => by exact (pe_dget (hu_of hr) (pv 1) (pv 3) (fun _ _ => rfl)))))))), ?_⟩
    refine ⟨d, _, hd, trivial, fun od => ?_⟩
    refine ⟨_, rfl, d, od, _, rfl, upd_same, fun D hD => ?_⟩
    obtain ⟨hD0, Dd⟩ := lock_free hD
    have len : (dG kss.length w (beatF w kss)).length = kss.length := dG_len ..
    refine dc_it walk_items (fun i H' => Same (upd H d (.frz od (.dK (dG kss.length w (beatF w kss))))) H' ∧ H' D = some (.dK (dG i (fun p => beatF w kss p ||| 2 ^ w p) w))) ⟨same_new hD, upd_same⟩ (fun _ _ _ z => z.1 _ _ upd_same) ?_ ?_
    · rintro i x H1 H2 hi ⟨s1, h1⟩ ⟨T1, x1, x2, rfl, nT, rfl, g1, g2⟩
      rw [len] at hi
      obtain rfl : x1 = .int ((w i : Nat) : Int) := by
        have z : Option.map (fun kv : Key × V => kV kv.1) (dG kss.length w (beatF w kss))[i]? = some x1 := g1
        rw [dG_get hi] at z
        exact (Option.some.inj z).symm
      obtain rfl : x2 = .int ((beatF w kss i : Nat) : Int) := by
        have z : Option.map Prod.snd (dG kss.length w (beatF w kss))[i]? = some x2 := g2
        rw [dG_get hi] at z
        exact (Option.some.inj z).symm
      have sT := same_new (o := .tup [.int ((w i : Nat) : Int), .int ((beatF w kss i : Nat) : Int)]) nT
      refine ⟨T1, [.int ((w i : Nat) : Int), .int ((beatF w kss i : Nat) : Int)], rfl, SqT.of upd_same, rfl, _, _, rfl, _, _, rfl, rfl, ?_⟩
      refine ⟨rfl, yes_of ?_⟩
      have s2 := s1.trans sT
      have h2 := sT _ _ h1
      refine ⟨_, rfl, _, rfl, w i, rfl, rfl, by have := U.low i hi; omega, _, _, rfl, rfl, ?_⟩
      refine ⟨_, rfl, _, Sum.inl ((beatF w kss i ||| 2 ^ w i : Nat) : Int), rfl, h2, ?_, fun b o e' => ?_, ?_⟩
      · rw [dG_len]
        exact small1000 (by omega)
      · rw [upd_ne (ne_of_none e' hD)]
        exact s2 b o e'
      · rw [upd_same]
        exact congrArg (fun k => some (HO.dK k)) (dG_more (n := i) (g := fun p => beatF w kss p ||| 2 ^ w p) (h := w) fun j hj e => by
          have := with_injF U fine (by omega) hi e
          omega)
    · rintro H1 ⟨s1, h1⟩
      rw [len] at h1
      refine ⟨s1 _ _ upd_same, ?_⟩
      have s2 := unlock hd s1
      have h2 : upd H1 d (.dK (dG kss.length w (beatF w kss))) D = some (.dK (dG kss.length (fun p => beatF w kss p ||| 2 ^ w p) w)) := by
        rw [upd_ne Dd]
        exact h1
      generalize upd H1 d (.dK (dG kss.length w (beatF w kss))) = H2 at s2 h2
      clear h1 s1 H1 hD od
      have hd2 := s2 _ _ hd
      refine ⟨d, _, hd2, trivial, fun od => ?_⟩
      refine ⟨_, rfl, d, od, _, rfl, upd_same, fun E0 hE => ?_⟩
      obtain ⟨hE0, Ed⟩ := lock_free hE
      refine dc_it walk_items (fun i H' => Same (upd H2 d (.frz od (.dK (dG kss.length w (beatF w kss))))) H' ∧ H' E0 = some (.dK (dP (nextsW w kss i)))) ⟨same_new hE, upd_same⟩ (fun _ _ _ z => z.1 _ _ upd_same) ?_ ?_
      · rintro i x H3 H4 hi ⟨s3, h3⟩ ⟨T1, x1, x2, rfl, nT, rfl, g1, g2⟩
        rw [len] at hi
        obtain rfl : x1 = .int ((w i : Nat) : Int) := by
          have z : Option.map (fun kv : Key × V => kV kv.1) (dG kss.length w (beatF w kss))[i]? = some x1 := g1
          rw [dG_get hi] at z
          exact (Option.some.inj z).symm
        obtain rfl : x2 = .int ((beatF w kss i : Nat) : Int) := by
          have z : Option.map Prod.snd (dG kss.length w (beatF w kss))[i]? = some x2 := g2
          rw [dG_get hi] at z
          exact (Option.some.inj z).symm
        have sT := same_new (o := .tup [.int ((w i : Nat) : Int), .int ((beatF w kss i : Nat) : Int)]) nT
        refine ⟨T1, [.int ((w i : Nat) : Int), .int ((beatF w kss i : Nat) : Int)], rfl, SqT.of upd_same, rfl, _, _, rfl, _, _, rfl, rfl, ?_⟩
        have s4 := s3.trans sT
        have h4 := sT _ _ h3
        have w4 := s4 _ _ (show upd H2 d (.frz od (.dK (dG kss.length w (beatF w kss)))) D = _ by rw [upd_ne Dd]; exact h2)
        generalize upd H3 T1 (.tup [.int ((w i : Nat) : Int), .int ((beatF w kss i : Nat) : Int)]) = H5 at s4 h4 w4
        refine ⟨rfl, ?_⟩
        refine ⟨_, rfl, _, rfl, D, _, rfl, DGet.k (k := Sum.inl ((beatF w kss i : Nat) : Int)) w4, _, rfl, ?_⟩
        rw [with_valF U hi]
        have mo := nextsW_more (w := w) (kss := kss) i
        cases nx : nextP kss i with
        | none =>
          rw [nx] at mo
          refine iteF ⟨s4, ?_⟩
          rw [mo]
          show H5 E0 = some (.dK (dP (nextsW w kss i ++ [])))
          rw [List.append_nil]
          exact h4
        | some q0 =>
          rw [nx] at mo
          refine iteT ⟨_, rfl, _, rfl, _, rfl, D, V.int ((w q0 : Nat) : Int), rfl, ?_, ?_⟩
          · have := DGet.k (k := Sum.inl ((beatF w kss i : Nat) : Int)) w4
            rw [with_valF U hi, nx] at this
            exact this
          refine ⟨_, Sum.inl ((w i : Nat) : Int), rfl, h4, ?_, fun b o e' => ?_, ?_⟩
          · have := nextsW_len (w := w) (kss := kss) i
            unfold dP
            rw [List.length_map]
            exact small1000 (by omega)
          · rw [upd_ne (ne_of_none e' hE)]
            exact s4 b o e'
          · rw [upd_same, mo]
            exact congrArg (fun k => some (HO.dK k)) (dP_put (nextsW_new U hi))
      · rintro H3 ⟨s3, h3⟩
        rw [len] at h3
        refine ⟨s3 _ _ upd_same, ?_⟩
        exact q E0 _ (s2.trans (unlock hd2 s3)) (s2.free hE0) (by rw [upd_ne Ed]; exact h3)
end
end K58

namespace K58
open PySem PySem.Spec PyProof.Rows
open L2 hiding spCell
open GL
def spWon : Sp := fun vs H Q _ => ∃ (c : Addr) (rs : List Addr) (kss : List (List Int)) (p q : Nat), vs = [.ref c, .int p, .int q] ∧ Tab H c rs kss ∧ Fine 2 kss ∧ p < kss.length ∧ q < kss.length ∧ p ≠ q ∧ Q (.bl (wonB kss p q)) H
def spAlikeW : Sp := fun vs H Q _ => ∃ (c : Addr) (rs : List Addr) (kss : List (List Int)) (a b : Nat), vs = [.ref c, .int a, .int b] ∧ Tab H c rs kss ∧ Fine 2 kss ∧ kss.length ≤ 100 ∧ a < kss.length ∧ b < kss.length ∧ ∀ H', Same H H' → Q (.bl (alikeL kss a b)) H'
def spTurnW : Sp := fun vs H Q _ => ∃ (c : Addr) (rs : List Addr) (kss : List (List Int)) (a b : Nat), vs = [.ref c, .int a, .int b] ∧ Tab H c rs kss ∧ Fine 2 kss ∧ kss.length ≤ 100 ∧ a < kss.length ∧ b < kss.length ∧ a ≠ b ∧
  ∀ (p : Addr) (ps : List Addr) (H' : Hp), Same H H' → H p = none → (∀ r ∈ ps, H r = none) → p ∉ ps → Tab H' p ps (turnK kss (min a b) (max a b)) → Q (.ref p) H'
def spCplW : Sp := fun vs H Q _ => ∃ (c : Addr) (rs : List Addr) (kss : List (List Int)), vs = [.ref c] ∧ Tab H c rs kss ∧ Fine 2 kss ∧ kss.length ≤ 100 ∧ ∀ (p : Addr) (ts : List (Addr × Nat × Nat)) (H' : Hp), Same H H' → H p = none → Cpls H H' p ts → ts.map (·.2) = cplL kss → Q (.ref p) H'
theorem third_empty {kss : List (List Int)} {a b : Nat} (f : Nat → V) {l : List Nat} (hl : l = (List.range kss.length).filter fun i => !decide (i ∈ [a, b])) :
    (((List.range l.length).filter fun i => !decide (wonB kss (l.getD i 0) a = wonB kss (l.getD i 0) b)).map f).isEmpty = alikeL kss a b := by
  rw [Bool.eq_iff_iff, List.isEmpty_iff, List.map_eq_nil_iff, List.filter_eq_nil_iff, alikeL_iff]
  constructor
  · intro h m hm ma mb
    have mem : m ∈ l := by
      rw [hl, List.mem_filter]
      exact ⟨List.mem_range.mpr hm, by simp [ma, mb]⟩
    obtain ⟨i, hi, e⟩ := List.getElem_of_mem mem
    have := h i (List.mem_range.mpr hi)
    rw [List.getD_eq_getElem?_getD, List.getElem?_eq_getElem hi, e] at this
    simpa using this
  · intro h i hi
    have hi := List.mem_range.mp hi
    obtain ⟨x, hx⟩ : ∃ x, l[i] = x := ⟨_, rfl⟩
    have mem : x ∈ l := by rw [← hx]; exact List.getElem_mem hi
    have ed : l.getD i 0 = x := by rw [List.getD_eq_getElem?_getD, List.getElem?_eq_getElem hi, hx]; rfl
    clear hx
    rw [hl, List.mem_filter] at mem
    rw [ed]
    have n1 := mem.2
    have := h x (List.mem_range.mp mem.1) (fun z => by simp [z] at n1) (fun z => by simp [z] at n1)
    simp [this]
theorem natV_get {l : List Nat} {i : Nat} {x : V} (h : (natV l)[i]? = some x) : ∃ p, l[i]? = some p ∧ x = .int ((p : Nat) : Int) := by
  unfold natV at h
  rw [List.getElem?_map] at h
  cases e : l[i]? with
  | none =>
    rw [e] at h
    cases h
  | some p =>
    rw [e] at h
    exact ⟨p, rfl, (Option.some.inj h).symm⟩
def spBits : Sp := fun vs H Q _ => ∃ (o : Addr) (l : List Nat), vs = [.ref o] ∧ H o = some (.lst (natV l)) ∧ (∀ p ∈ l, p ≤ 1000) ∧ Q (.int ((bitsN l : Nat) : Int)) H
theorem natV_len (l : List Nat) : (natV l).length = l.length := List.length_map _
section
variable {P : Program} {w : World} {K : PySem.W.Frag} {mg : Str → Option Value} {base : Heap}
abbrev sWon : Stmt := topS 32
abbrev nWon : List Str := ["_law_rows", "_law_one", "_law_other"]
theorem scWon : FnScope nWon ["_law_rows", "_law_one", "_law_other"] (defScope sWon) := ⟨rfl, rfl, rfl, by decide +kernel, rfl, by decide +kernel, by decide +kernel⟩
theorem ok_won {f : Addr} {fd : FuncData} (F : Fun K "_law_won" "_law_won" sWon f fd) (T : Bi mg) : FnOk P w K mg base CX0 1 f fd ["_law_rows", "_law_one", "_law_other"] spWon := by
  refine F.ok scWon (fun vs H Q E h => ?_) (fun cdv A outer s H vs Q E hr h => ?_)
  · obtain ⟨c, rs, kss, p, r, rfl, _⟩ := h
    rfl
  · obtain ⟨c, rs, kss, p, r, rfl, t, fine, hp, hr', ne, q⟩ := h
    refine ⟨_, (pss_one (ps_ret (pe_ifExp (pt_cmpR op_gt (pv 1) (pv 2) (nomark _)) (pe_cmpR op_eq (pe_ix ix_list (pe_ix ix_list (pv 0) (pv 1) (fun _ _ => rfl)) (pv 2) (fun _ _ => rfl)) pe_int (nomark _)) (pe_cmpR op_eq (pe_ix ix_list (pe_ix ix_list (pv 0) (pv 2) (fun _ _ => rfl)) (pv 1) (fun _ _ => rfl)) pe_int (nomark _))))), ?_⟩
    refine ⟨_, rfl, _, rfl, _, _, rfl, rfl, _, rfl, ?_⟩
    by_cases lt : r < p
    · obtain ⟨x, ks, g1, g2, g3⟩ := t.entry fine lt hp
      refine ite2 (fun _ => ?_) (fun z => (z (decide_eq_true (by omega))).elim)
      refine ⟨_, rfl, _, rfl, c, _, _, _, rfl, rfl, SqL.of t.top, g1, _, rfl, x, _, _, _, rfl, rfl, SqL.of g2, g3, rfl, ?_⟩
      unfold wonB at q
      rw [if_pos lt] at q
      rw [show decide (V.int (tieN kss p r) = V.int 1) = decide (tieN kss p r = 1) from decide_eq_decide.mpr ⟨fun z => V.int.inj z, fun z => by rw [z]⟩]
      exact q
    · obtain ⟨x, ks, g1, g2, g3⟩ := t.entry fine (by omega : p < r) hr'
      refine ite2 (fun z => absurd (of_decide_eq_true z) (by omega)) (fun _ => ?_)
      refine ⟨_, rfl, _, rfl, c, _, _, _, rfl, rfl, SqL.of t.top, g1, _, rfl, x, _, _, _, rfl, rfl, SqL.of g2, g3, rfl, ?_⟩
      unfold wonB at q
      rw [if_neg lt, tieN_comm] at q
      rw [show decide (V.int (tieN kss r p) = V.int 0) = decide (tieN kss r p = 0) from decide_eq_decide.mpr ⟨fun z => V.int.inj z, fun z => by rw [z]⟩]
      exact q
abbrev sAlikeW : Stmt := topS 33
abbrev nAlikeW : List Str := ["_law_rows", "_law_one", "_law_other", "_law_third", "_law_person"]
theorem scAlikeW : FnScope nAlikeW ["_law_rows", "_law_one", "_law_other"] (defScope sAlikeW) := ⟨rfl, rfl, rfl, by decide +kernel, rfl, by decide +kernel, by decide +kernel⟩
theorem ok_alikeW {f : Addr} {fd : FuncData} (F : Fun K "_law_alike" "_law_alike" sAlikeW f fd) (T : Bi mg) (ULwon : Use P w K mg base "_law_won" ["_law_rows", "_law_one", "_law_other"] spWon 1) : FnOk P w K mg base CX0 2 f fd ["_law_rows", "_law_one", "_law_other"] spAlikeW := by
  refine F.ok scAlikeW (fun vs H Q E h => ?_) (fun cdv A outer s H vs Q E hr h => ?_)
  · obtain ⟨c, rs, kss, a, b, rfl, _⟩ := h
    rfl
  · obtain ⟨c, rs, kss, a, b, rfl, t, fine, n100, al, bl, q⟩ := h
    refine ⟨_, (pss_cons (ps_setLc (i := 3) (own := [("_law_person", 4)]) (g := (gName 4)) (tt := (tTest (tOp (rIn K true) (tVar 4) (tLst (tCons (tVar 1) (tCons (tVar 2) tNil)))))) (te := (tVar 4)) rfl scAlikeW.nd rfl rfl (sw_true rfl rfl rfl (by decide +kernel)) (pi_range1 (by rfl) T.range (pa_cons (pe_callB call_len_seq (by rfl) T.len PySem.boot_len (pa_cons (pv 0) pa_nil)) pa_nil))
          (blkOk_by (N := nAlikeW) (sc := (defScope sAlikeW)) (by decide +kernel)) (fun _ _ _ _ _ => (pg_name (i := 4) scAlikeW.nd rfl (Or.inl rfl))) (fun _ _ _ _ _ => by exact (pts_one (pt_cmpR op_notIn_seq (pv 4) (pe_lst (pa_cons (pv 1) (pa_cons (pv 2) pa_nil))) (by rfl))))
          (fun _ _ _ _ _ => by exact (pv 4)))
      (pss_one (ps_ret (pe_cmpR (op_eqNil hr.units) (pe_lc (own := [("_law_person", 4)]) (g := (gName 4)) (tt := (tTest (tOp rNe (tCall spWon [] E0 (tCons (tVar 0) (tCons (tVar 4) (tCons (tVar 1) tNil)))) (tCall spWon [] E0 (tCons (tVar 0) (tCons (tVar 4) (tCons (tVar 2) tNil))))))) (te := (tVar 4)) rfl scAlikeW.nd (pi_list (pv 3))
            (blkOk_by (N := nAlikeW) (sc := (defScope sAlikeW)) (by decide +kernel)) (fun _ _ _ _ _ => (pg_name (i := 4) scAlikeW.nd rfl (Or.inl rfl))) (fun _ _ _ _ _ => by exact (pts_one (pt_cmpR op_ne (pe_use ULwon hr (by rfl) (pa_cons (pv 0) (pa_cons (pv 4) (pa_cons (pv 1) pa_nil)))) (pe_use ULwon hr (by rfl) (pa_cons (pv 0) (pa_cons (pv 4) (pa_cons (pv 2) pa_nil)))) (nomark _))))
            (fun _ _ _ _ _ => by exact (pv 4))) (pe_lst pa_nil) (nomark _))))), ?_⟩
    have lr : (rs.map V.ref).length = kss.length := by rw [List.length_map, t.len]
    refine ⟨_, rfl, c, _, rfl, .inl (SqL.of t.top), _, rfl, by omega, by omega, fun D hD => ?_⟩
    rw [lr]
    refine lc_keep (walk_nat (n := (kss.length : Int).toNat)) (fun i => !decide (i ∈ [a, b])) (fun i => .int ((i : Nat) : Int)) hD (by rw [sizeLine_eq]; omega) (fun _ _ => trivial) ?_ ?_
    · rintro i x H2 H3 N M hi s2 ⟨rfl, rfl⟩ hN hM
      refine ⟨rfl, ?_⟩
      refine ⟨_, rfl, _, rfl, _, rfl, (by show 2 ≤ sizeLine; decide), fun T hT => ?_⟩
      refine ⟨T, natV [a, b], rfl, .inl (SqL.of upd_same), rfl, flat_nat _, _, rfl, ?_⟩
      show ite ((!inV (.int (i : Nat)) (natV [a, b])) = true) _ _
      rw [inV_nat]
      cases e : (!decide (i ∈ [a, b])) with
      | true => exact iteT ⟨_, rfl, hN _ e (same_new hT)⟩
      | false => exact iteF (hM _ e (same_new hT))
    · intro H2 s2 h2
      obtain ⟨l, hl⟩ : ∃ l, l = (List.range kss.length).filter fun i => !decide (i ∈ [a, b]) := ⟨_, rfl⟩
      have h2' : H2 D = some (.lst (natV l)) := by
        rw [h2, hl]
        rfl
      have low : ∀ m ∈ l, m < kss.length ∧ m ≠ a ∧ m ≠ b := fun m hm => by
        rw [hl, List.mem_filter] at hm
        have n1 := hm.2
        exact ⟨List.mem_range.mp hm.1, fun z => by simp [z] at n1, fun z => by simp [z] at n1⟩
      have ll : l.length ≤ kss.length := by
        rw [hl]
        have := List.length_filter_le (fun i => !decide (i ∈ [a, b])) (List.range kss.length)
        rw [List.length_range] at this
        exact this
      clear h2
      have t2 := t.same s2
      refine ⟨_, rfl, D, rfl, ⟨_, SqL.of h2'⟩, fun E0 hE => ?_⟩
      refine lc_keep (walk_list (K := K) (a := D) (xs := natV l)) (fun i => !decide (wonB kss (l.getD i 0) a = wonB kss (l.getD i 0) b)) (fun i => .int ((l.getD i 0 : Nat) : Int)) hE (by rw [natV_len, sizeLine_eq]; omega) (fun H' s' => SqL.of (s' _ _ h2')) ?_ ?_
      · rintro i x H3 H4 N M hi s3 ⟨rfl, ex⟩ hN hM
        rw [natV_len] at hi
        obtain ⟨m, em, rfl⟩ := natV_get ex
        obtain ⟨m1, m2, m3⟩ := low m (List.mem_of_getElem? em)
        have ed : l.getD i 0 = m := by rw [List.getD_eq_getElem?_getD, em]; rfl
        have t3 := t2.same s3
        refine ⟨rfl, ?_⟩
        refine ⟨_, rfl, _, rfl, _, rfl, c, rs, kss, m, a, rfl, t3, fine, m1, al, m2, ?_⟩
        refine ⟨_, rfl, _, rfl, _, rfl, c, rs, kss, m, b, rfl, t3, fine, m1, bl, m3, rfl, _, rfl, ?_⟩
        rw [ed] at hN hM
        have ez : (!decide (V.bl (wonB kss m a) = V.bl (wonB kss m b))) = !decide (wonB kss m a = wonB kss m b) := by
          congr 1
          exact decide_eq_decide.mpr ⟨fun z => V.bl.inj z, fun z => by rw [z]⟩
        rw [ez]
        cases e : (!decide (wonB kss m a = wonB kss m b)) with
        | true => exact iteT ⟨_, rfl, hN _ e (Same.refl _)⟩
        | false => exact iteF (hM _ e (Same.refl _))
      · intro H3 s3 h3
        rw [natV_len] at h3
        refine ⟨Nat.zero_le _, fun e he => ?_⟩
        obtain ⟨H4, e4, s4, f4⟩ := gen H3 he (.lst [])
        rw [e4]
        clear e4
        refine ⟨E0, e, _, rfl, rfl, SqL.of (s4 _ _ h3), SqL.of f4, ?_⟩
        rw [third_empty _ hl]
        exact q _ (s2.trans (s3.trans s4))
abbrev sTurnW : Stmt := topS 34
abbrev nTurnW : List Str := ["_law_rows", "_law_one", "_law_other", "_law_found", "_law_row"]
theorem scTurnW : FnScope nTurnW ["_law_rows", "_law_one", "_law_other"] (defScope sTurnW) := ⟨rfl, rfl, rfl, by decide +kernel, rfl, by decide +kernel, by decide +kernel⟩
theorem ok_turnW {f : Addr} {fd : FuncData} (F : Fun K "_law_turned" "_law_turned" sTurnW f fd) (T : Bi mg) : FnOk P w K mg base CX0 1 f fd ["_law_rows", "_law_one", "_law_other"] spTurnW := by
  refine F.ok scTurnW (fun vs H Q E h => ?_) (fun cdv A outer s H vs Q E hr h => ?_)
  · obtain ⟨c, rs, kss, a, b, rfl, _⟩ := h
    rfl
  · obtain ⟨c, rs, kss, a, b, rfl, t, fine, n100, al, bl, ne, q⟩ := h
    refine ⟨_, (pss_cons (ps_setLc (i := 3) (own := [("_law_row", 4)]) (g := (gName 4)) (tt := tYes) (te := (tCB (rLstL K) (tCons (tVar 4) tNil))) rfl scTurnW.nd rfl rfl (sw_true rfl rfl rfl (by decide +kernel)) (pi_list (pv 0))
          (blkOk_by (N := nTurnW) (sc := (defScope sTurnW)) (by decide +kernel)) (fun _ _ _ _ _ => (pg_name (i := 4) scTurnW.nd rfl (Or.inl rfl))) (fun _ _ _ _ _ => by exact pts_nil)
          (fun _ _ _ _ _ => by exact (pe_callTy call_lstL (by rfl) T.list PyProof.Rows.boot_list (pa_cons (pv 4) pa_nil))))
      (pss_cons (ps_asg (pe_op op_sub pe_int (pe_ix ix_list (pe_ix ix_list (pv 3) (pe_callB (call_max2 rfl) (by rfl) T.max (by decide +kernel) (pa_cons (pv 1) (pa_cons (pv 2) pa_nil))) (fun _ _ => rfl)) (pe_callB (call_min2 rfl) (by rfl) T.min (by decide +kernel) (pa_cons (pv 1) (pa_cons (pv 2) pa_nil))) (fun _ _ => rfl)))
          (pg_sub (pe_ix ix_list (pv 3) (pe_callB (call_max2 rfl) (by rfl) T.max (by decide +kernel) (pa_cons (pv 1) (pa_cons (pv 2) pa_nil))) (fun _ _ => rfl)) (pe_callB (call_min2 rfl) (by rfl) T.min (by decide +kernel) (pa_cons (pv 1) (pa_cons (pv 2) pa_nil))) set_list))
      (pss_one (ps_ret (pv 3))))), ?_⟩
    have lr : (rs.map V.ref).length = kss.length := by rw [List.length_map, t.len]
    have e1 : (if (b : Int) > (a : Int) then (b : Int) else (a : Int)) = ((max a b : Nat) : Int) := by
      split <;> omega
    have e2 : (if (b : Int) < (a : Int) then (b : Int) else (a : Int)) = ((min a b : Nat) : Int) := by
      split <;> omega
    have lo : min a b < max a b := by omega
    have hi : max a b < kss.length := by omega
    refine ⟨_, rfl, c, rfl, ⟨_, SqL.of t.top⟩, fun D hD => ?_⟩
    refine lc_objs (walk_list (K := K) (a := c) (xs := rs.map V.ref)) (fun i => .lst ((kss.getD i []).map V.int)) hD (by rw [lr, sizeLine_eq]; omega) (fun H' s' => SqL.of (s' _ _ t.top)) ?_ ?_
    · rintro x y H5 H6 M hx s6 ⟨rfl, ey⟩ hM
      rw [lr] at hx
      obtain ⟨r, ks, r1, r2, r3⟩ := t.at (i := x) (by omega)
      rw [List.getElem?_map, r1] at ey
      cases ey
      refine ⟨rfl, _, rfl, r, _, rfl, SqL.of (s6 _ _ r3), fun l hl => ?_⟩
      obtain ⟨H7, e7, s7, f7⟩ := gen H6 hl (.lst (ks.map V.int))
      rw [e7]
      refine hM H7 l s7 hl ?_
      rw [f7, List.getD_eq_getElem?_getD, r2]
      rfl
    · intro H5 ps s6 ob
      rw [lr] at ob
      have tq := ob.tab rfl
      obtain ⟨r, ks, r1, r2, r3⟩ := tq.at (i := max a b) hi
      have lks : ks.length = max a b := (fine _ ks r2).1
      obtain ⟨r', ks', g1, g2, g3⟩ := tq.entry fine lo hi
      have er : r' = r := by
        have z := g1
        rw [show atI (ps.map V.ref) ((max a b : Nat) : Int) = some (.ref r) from atI_nat (by rw [List.getElem?_map, r1]; rfl)] at z
        cases z
        rfl
      subst er
      have g1' : atI (ps.map V.ref) (if (b : Int) > (a : Int) then (b : Int) else (a : Int)) = some (.ref r') := by rw [e1]; exact g1
      have g3' : atI (ks'.map V.int) (if (b : Int) < (a : Int) then (b : Int) else (a : Int)) = some (.int (tieN kss (max a b) (min a b))) := by rw [e2]; exact g3
      refine ⟨_, rfl, _, rfl, _, rfl, _, _, rfl, D, _, _, _, rfl, rfl, SqL.of tq.top, g1', _, rfl, _, rfl, _, _, rfl, _, _, _, _, rfl, rfl, SqL.of g2, g3', _, _, rfl, rfl, ?_⟩
      refine ⟨_, rfl, _, rfl, _, rfl, _, _, rfl, D, _, _, _, rfl, rfl, SqL.of tq.top, g1', _, rfl, _, rfl, _, _, rfl, _, _, _, min a b, rfl, rfl, r3, by rw [e2]; exact ixN_nat (by rw [List.length_map]; omega), ?_⟩
      have tw := tq.put (a := min a b) (v := 1 - tieN kss (max a b) (min a b)) r1 r2 ob.out
      have hr4 := ob.new _ (List.mem_of_getElem? r1)
      have s46 : Same H (upd H5 r' (.lst ((ks.map V.int).set (min a b) (.int (1 - tieN kss (max a b) (min a b)))))) := fun b' o e' => by
        rw [upd_ne (ne_of_none e' hr4)]
        exact s6 _ _ e'
      rw [tieN_comm kss (max a b) (min a b)] at tw s46 ⊢
      exact ⟨_, rfl, q D ps _ s46 hD ob.new ob.out tw⟩
abbrev sCplW : Stmt := topS 36
abbrev nCplW : List Str := ["_law_rows", "_law_found", "_law_one", "_law_other"]
theorem scCplW : FnScope nCplW ["_law_rows"] (defScope sCplW) := ⟨rfl, rfl, rfl, by decide +kernel, rfl, by decide +kernel, by decide +kernel⟩
theorem ok_cplW {f : Addr} {fd : FuncData} (F : Fun K "_law_couples" "_law_couples" sCplW f fd) (T : Bi mg) (ULalike : Use P w K mg base "_law_alike" ["_law_rows", "_law_one", "_law_other"] spAlikeW 2) : FnOk P w K mg base CX0 3 f fd ["_law_rows"] spCplW := by
  refine F.ok scCplW (fun vs H Q E h => ?_) (fun cdv A outer s H vs Q E hr h => ?_)
  · obtain ⟨c, rs, kss, rfl, _⟩ := h
    rfl
  · obtain ⟨c, rs, kss, rfl, t, fine, n100, q⟩ := h
    refine ⟨_, (pss_cons (ps_set (i := 1) scCplW.nd rfl (Or.inl rfl) (pe_lst pa_nil))
      (pss_cons (ps_for PassesOwn.never rfl (pi_range1 (by rfl) T.range (pa_cons (pe_callB call_len_seq (by rfl) T.len PySem.boot_len (pa_cons (pv 0) pa_nil)) pa_nil)) (pg_name (i := 2) scCplW.nd rfl (Or.inr rfl))
        (pss_one (ps_set (i := 1) scCplW.nd rfl (Or.inl rfl) (pe_op op_cat (pv 1) (pe_lc (own := [("_law_other", 3)]) (g := (gName 3)) (tt := (tB (tCall spAlikeW [] E0 (tCons (tVar 0) (tCons (tVar 2) (tCons (tVar 3) tNil)))))) (te := (tTup (tCons (tVar 2) (tCons (tVar 3) tNil)))) rfl scCplW.nd (pi_range2 (by rfl) T.range (pa_cons (pe_op op_add (pv 2) pe_int) (pa_cons (pe_callB call_len_seq (by rfl) T.len PySem.boot_len (pa_cons (pv 0) pa_nil)) pa_nil)))
            (blkOk_by (N := nCplW) (sc := (defScope sCplW)) (by decide +kernel)) (fun _ _ _ _ _ => (pg_name (i := 3) scCplW.nd rfl (Or.inl rfl))) (fun _ _ _ _ _ => by exact (pts_one (pt_val (pe_use ULalike hr (by rfl) (pa_cons (pv 0) (pa_cons (pv 2) (pa_cons (pv 3) pa_nil)))))))
            (fun _ _ _ _ _ => by exact (pe_tup (pa_cons (pv 2) (pa_cons (pv 3) pa_nil)))))))))
      (pss_one (ps_ret (pv 1))))), ?_⟩
    obtain ⟨n, hn⟩ : ∃ n, kss.length = n := ⟨_, rfl⟩
    have lr : (rs.map V.ref).length = n := by rw [List.length_map, t.len, hn]
    have n100' : n ≤ 100 := by omega
    refine ⟨Nat.zero_le _, fun f0 hf0 => ?_⟩
    have big : ∀ m, m ≤ 100 → m * n ≤ 10000 := fun m hm => Nat.mul_le_mul hm n100'
    have szl : ∀ x, x ≤ 10200 → x < sizeLine := fun x hx => by rw [sizeLine_eq]; omega
    obtain ⟨J0, e0, s0, h0⟩ := gen H hf0 (.lst [])
    rw [e0]
    clear e0
    refine ⟨_, rfl, c, _, rfl, .inl (SqL.of (s0 _ _ t.top)), _, rfl, by omega, by omega, ?_⟩
    rw [lr]
    refine for_range (lo := 0) (n := (n : Int).toNat) (fun i σ H' => ∃ (f : Addr) (ts : List (Addr × Nat × Nat)) (pv : Option V), σ = [some (.ref c), some (.ref f), pv, none] ∧ Same H H' ∧ H f = none ∧ Cpls H H' f ts ∧ ts.map (·.2) = (cplTo n i).filter fun c => alikeL kss c.1 c.2)
      ⟨f0, [], none, rfl, s0, hf0, ⟨h0, by simp, by simp⟩, rfl⟩ ?_ ?_
    · rintro i σ H' hi ⟨f, ts, pv0, rfl, s1, ha, R, e1⟩
      have lts : ts.length ≤ i * n := by
        have h1 := congrArg List.length e1
        rw [List.length_map] at h1
        have h2 := List.length_filter_le (fun c : Nat × Nat => alikeL kss c.1 c.2) (cplTo n i)
        have h3 := cpl_len n i
        omega
      have b1 := big i (by omega)
      have t1 := t.same s1
      refine ⟨_, rfl, _, rfl, _, _, rfl, rfl, _, rfl, c, _, rfl, .inl (SqL.of t1.top), _, _, rfl, ?_⟩
      rw [lr]
      refine ⟨⟨by omega, by omega, by omega, by omega⟩, fun D hD => ?_⟩
      have kn : ((n : Int) - (0 + (i : Int) + 1)).toNat = n - (i + 1) := by omega
      refine lc_it (walk_range (lo := 0 + (i : Int) + 1) (n := ((n : Int) - (0 + (i : Int) + 1)).toNat)) (fun j H5 => Same H' H5 ∧ ∃ us, Cpls H' H5 D us ∧ us.map (·.2) = ((List.range j).map fun j => (i, i + 1 + j)).filter fun c => alikeL kss c.1 c.2)
        ⟨same_new hD, [], ⟨upd_same, by simp, by simp⟩, rfl⟩ (fun _ _ _ _ => trivial) ?_ ?_
      · rintro j y H5 H6 hj ⟨s5, us, R5, e5⟩ ⟨rfl, rfl⟩
        rw [kn] at hj
        refine ⟨rfl, ?_⟩
        have ei : (0 + (i : Int)) = ((i : Nat) : Int) := by omega
        have ej : (0 + (i : Int) + 1 + (j : Int)) = ((i + 1 + j : Nat) : Int) := by omega
        refine ⟨_, rfl, _, rfl, _, rfl, c, rs, kss, i, i + 1 + j, (show [V.ref c, V.int (0 + (i : Int)), V.int (0 + (i : Int) + 1 + (j : Int))] = [V.ref c, V.int ((i : Nat) : Int), V.int ((i + 1 + j : Nat) : Int)] by rw [ej, ei]), t1.same s5, fine, by omega, by omega, by omega, fun H7 s7 => ⟨_, rfl, ?_⟩⟩
        have more : ((List.range (j + 1)).map fun j => (i, i + 1 + j)).filter (fun c : Nat × Nat => alikeL kss c.1 c.2) = (((List.range j).map fun j => (i, i + 1 + j)).filter fun c : Nat × Nat => alikeL kss c.1 c.2) ++ (if alikeL kss i (i + 1 + j) = true then [(i, i + 1 + j)] else []) := by
          rw [List.range_succ, List.map_append, List.filter_append]
          congr 1
          show List.filter _ [(i, i + 1 + j)] = _
          cases h : alikeL kss i (i + 1 + j) <;> simp [h]
        cases al : alikeL kss i (i + 1 + j) with
        | false =>
          rw [al] at more
          refine iteF ⟨s5.trans s7, us, R5.same s7, ?_⟩
          rw [more, e5, if_neg (by decide), List.append_nil]
        | true =>
          rw [al] at more
          refine iteT ⟨_, rfl, _, rfl, (by show 2 ≤ sizeLine; decide), fun p hp => ?_⟩
          obtain ⟨H8, e8, s8, f8⟩ := gen H7 hp (.tup (pairT (i, i + 1 + j)))
          rw [show ([V.int (0 + (i : Int)), V.int (0 + (i : Int) + 1 + (j : Int))] : List V) = pairT (i, i + 1 + j) by rw [ej, ei]; rfl, e8]
          clear e8
          have R7 := R5.same s7
          refine ⟨_, s8 _ _ R7.top, ?_, fun b o e' => ?_, _, R7.push s8 hp (s5.free (s7.free hp)) f8, ?_⟩
          · have := congrArg List.length e5
            rw [List.length_map] at this
            have h2 := List.length_filter_le (fun c : Nat × Nat => alikeL kss c.1 c.2) ((List.range j).map fun j => (i, i + 1 + j))
            rw [List.length_map, List.length_range] at h2
            rw [List.length_map]
            exact small1000 (by omega)
          · rw [upd_ne (ne_of_none e' hD)]
            exact s8 b o (s7 b o (s5 b o e'))
          · rw [List.map_append, e5, more]
            rfl
      · rintro H5 ⟨s5, us, R5, e5⟩
        rw [kn] at e5
        have lus : us.length ≤ n := by
          have := congrArg List.length e5
          rw [List.length_map] at this
          have h2 := List.length_filter_le (fun c : Nat × Nat => alikeL kss c.1 c.2) ((List.range (n - (i + 1))).map fun j => (i, i + 1 + j))
          rw [List.length_map, List.length_range] at h2
          omega
        refine ⟨f, D, _, _, rfl, rfl, s5 _ _ R.top, R5.top, ?_, fun p hp => ?_⟩
        · rw [List.length_map, List.length_map]
          exact Nat.le_of_lt (szl _ (by omega))
        · obtain ⟨H6, e6, s6, f6⟩ := gen H5 hp (.lst ((ts.map fun t => V.ref t.1) ++ (us.map fun t => V.ref t.1)))
          rw [e6]
          clear e6
          refine ⟨p, ts ++ us, _, rfl, s1.trans (s5.trans s6), s1.free (s5.free hp), ⟨?_, ?_, ?_⟩, ?_⟩
          · rw [f6, List.map_append]
          · intro t ht
            rcases List.mem_append.mp ht with ht | ht
            · exact s6 _ _ (s5 _ _ (R.row t ht))
            · exact s6 _ _ (R5.row t ht)
          · intro t ht
            rcases List.mem_append.mp ht with ht | ht
            · exact R.new t ht
            · exact s1.free (R5.new t ht)
          · rw [List.map_append, e1, e5]
            show _ = List.filter _ (cplTo n i ++ _)
            rw [List.filter_append]
    · rintro σ H' ⟨f, ts, pv0, rfl, s1, ha, R, e1⟩
      have nn : (n : Int).toNat = n := Int.toNat_natCast n
      rw [nn, ← hn] at e1
      exact ⟨_, rfl, q f ts H' s1 ha R e1⟩
end
end K58

namespace K58
open PySem PySem.Spec PyProof.Rows
open L2 hiding spCell
open GL
def spBuilt : Sp := fun vs H Q _ => ∃ (g : Addr) (m wi n : Nat), vs = [.ref g, .int m, .int wi] ∧ 1 ≤ m ∧ m ≤ 20 ∧ wi ≤ 10 ∧ Gen H g (n + 300) ∧ ∀ (p : Addr) (H' : Hp), But g H H' → Gen H' g n → CoN H H' 2 p m → Q (.ref p) H'
theorem notin_take_idx : ∀ (l : List Nat) (x : Nat), x ∉ l.take (l.idxOf x)
  | [], x => by simp
  | a :: l, x => by
    rw [List.idxOf_cons]
    by_cases h : a = x
    · subst h
      simp
    · have e : (a == x) = false := by simpa using h
      rw [e, cond_false, List.take_succ_cons, List.mem_cons]
      rintro (z | z)
      · exact h z.symm
      · exact notin_take_idx l x z
/-- each number at its first place alone -/
def dedN (l : List Nat) : List Nat := ((List.range l.length).filter fun i => !decide (l.getD i 0 ∈ l.take i)).map fun i => l.getD i 0
theorem dedN_mem {l : List Nat} {x : Nat} : x ∈ dedN l ↔ x ∈ l := by
  unfold dedN
  rw [List.mem_map]
  constructor
  · rintro ⟨i, hi, rfl⟩
    have hi := List.mem_range.mp (List.mem_filter.mp hi).1
    rw [List.getD_eq_getElem?_getD, List.getElem?_eq_getElem hi]
    exact List.getElem_mem hi
  · intro h
    have lt := List.idxOf_lt_length_iff.mpr h
    have ed : l.getD (l.idxOf x) 0 = x := by
      rw [List.getD_eq_getElem?_getD, List.getElem?_eq_getElem lt]
      exact List.getElem_idxOf lt
    refine ⟨l.idxOf x, List.mem_filter.mpr ⟨List.mem_range.mpr lt, ?_⟩, ed⟩
    rw [ed]
    have := notin_take_idx l x
    simp [this]
theorem dedN_nodup (l : List Nat) : (dedN l).Nodup := by
  unfold dedN List.Nodup
  rw [List.pairwise_map]
  have p : ((List.range l.length).filter fun i => !decide (l.getD i 0 ∈ l.take i)).Pairwise (· < ·) := List.pairwise_lt_range.sublist List.filter_sublist
  refine List.Pairwise.imp_of_mem ?_ p
  intro i j hi hj ij e
  obtain ⟨h1, h2⟩ := List.mem_filter.mp hj
  have h1 := List.mem_range.mp h1
  have : l.getD j 0 ∈ l.take j := by
    rw [← e, List.getD_eq_getElem?_getD, List.getElem?_eq_getElem (by omega)]
    exact List.mem_take_iff_getElem.mpr ⟨i, by omega, rfl⟩
  rw [decide_eq_true this] at h2
  cases h2
theorem all_below {os : List Nat} {i : Nat} (nd : os.Nodup) (h : ∀ p, p ∈ os ↔ p < i) : os.length = i := by
  have : os.Perm (List.range i) := (List.perm_ext_iff_of_nodup nd List.nodup_range).mpr fun p => by rw [h p, List.mem_range]
  rw [this.length_eq, List.length_range]
theorem index_of {K : PySem.W.Frag} {H : Hp} {o : Addr} {os : List Nat} {p : Nat} {Q : VK} (nd : os.Nodup) (ho : H o = some (.lst (natV os))) (hp : p ∈ os) (q : Q (.int ((os.idxOf p : Nat) : Int)) H) : rIndexD K (.ref o) [.int ((p : Nat) : Int)] H Q := by
  have lt := List.idxOf_lt_length_iff.mpr hp
  have e : os[os.idxOf p] = p := List.getElem_idxOf lt
  obtain ⟨z, h1, h2, h3⟩ := first_place nd lt
  rw [e] at h2 h3
  exact ⟨o, _, _, _, _, z, rfl, rfl, nat_dp ho, .int _, shaped_row _, rfl, h1, h2, h3, q⟩
section
variable {P : Program} {w : World} {K : PySem.W.Frag} {mg : Str → Option Value} {base : Heap}
abbrev sBuilt : Stmt := topS 35
abbrev nBuilt : List Str := ["_law_generator_here", "_law_size", "_law_wild", "_law_order", "_law_rows", "_law_person", "_law_at", "_law_mate", "_law_turn", "_law_one", "_law_other"]
theorem scBuilt : FnScope nBuilt ["_law_generator_here", "_law_size", "_law_wild"] (defScope sBuilt) := ⟨rfl, rfl, rfl, by decide +kernel, rfl, by decide +kernel, by decide +kernel⟩
theorem ok_built {f : Addr} {fd : FuncData} (F : Fun K "_law_built" "_law_built" sBuilt f fd) (T : Bi mg) (ULrandom : Use P w K mg base "_law_random" ["_law_generator_here", "_law_bound"] spRandom 2) (ULturned : Use P w K mg base "_law_turned" ["_law_rows", "_law_one", "_law_other"] spTurnW 1) : FnOk P w K mg base CX0 3 f fd ["_law_generator_here", "_law_size", "_law_wild"] spBuilt := by
  refine F.ok scBuilt (fun vs H Q E h => ?_) (fun cdv A outer s H vs Q E hr h => ?_)
  · obtain ⟨g, m, wi, n, rfl, _⟩ := h
    rfl
  · obtain ⟨g, m, wi, n, rfl, m1, m20, w10, G, q⟩ := h
    have h65 : (A.deeper (envOfC "_law_built" (defScope sBuilt) s.heap.objs.size f cdv)).units + 65 < cLine := by
      have := hr.un
      omega
    refine ⟨_, (pss_cons (ps_asg (pe_tup (pa_cons (pe_lst pa_nil) (pa_cons (pe_lst pa_nil) pa_nil)))
          (pg_tup rfl (pgs_cons (pg_name (i := 3) scBuilt.nd rfl (Or.inr rfl)) (pgs_cons (pg_name (i := 4) scBuilt.nd rfl (Or.inl rfl)) pgs_nil))))
      (pss_cons (ps_for PassesOwn.never rfl (pi_range1 (by rfl) T.range (pa_cons (pv 1) pa_nil)) (pg_name (i := 5) scBuilt.nd rfl (Or.inr rfl))
        (pss_cons (ps_set (i := 3) scBuilt.nd rfl (Or.inr rfl) (pe_op op_cat (pe_op op_cat (pe_slice sl_list (pv 3) po_none (po_some (pe_use ULrandom hr (by rfl) (pa_cons (pv 0) (pa_cons (pe_op op_add (pv 5) pe_int) pa_nil))))) (pe_lst (pa_cons (pv 5) pa_nil))) (pv 3)))
        (pss_one (ps_set (i := 3) scBuilt.nd rfl (Or.inr rfl) (pe_lc (own := [("_law_at", 6), ("_law_mate", 7)]) (g := (gTup K 2 (gCons (gName 6) (gCons (gName 7) gNil)))) (tt := (tTest (tOp (rIn K true) (tVar 7) (tSl (rSlL K) (tVar 3) tNoPart (tPart (tVar 6)))))) (te := (tVar 7)) rfl scBuilt.nd (pi_enum (by rfl) T.enumerate (pa_cons (pv 3) pa_nil))
            (blkOk_by (N := nBuilt) (sc := (defScope sBuilt)) (by decide +kernel)) (fun _ _ _ _ _ => (pg_tup rfl (pgs_cons (pg_name (i := 6) scBuilt.nd rfl (Or.inl rfl)) (pgs_cons (pg_name (i := 7) scBuilt.nd rfl (Or.inl rfl)) pgs_nil)))) (fun _ _ _ _ _ => by exact (pts_one (pt_cmpR op_notIn_seq (pv 7) (pe_slice sl_list (pv 3) po_none (po_some (pv 6))) (by rfl))))
            (fun _ _ _ _ _ => by exact (pv 7)))))))
      (pss_cons (ps_for PassesOwn.never rfl (pi_range1 (by rfl) T.range (pa_cons (pv 1) pa_nil)) (pg_name (i := 5) scBuilt.nd rfl (Or.inr rfl))
        (pss_one (ps_expr (pe_bm PySem.F.plainAttrs_list PySem.F.slot_list_append PySem.F.type_list_append mt_append (pv 4) (pa_cons (pe_lc (own := [("_law_mate", 7)]) (g := (gName 7)) (tt := tYes) (te := (tCB rInt1 (tCons (tOp (rI0 fun i j => .bl (decide (i < j))) (tBM K "list" (rIndexD K) (tVar 3) (tCons (tVar 5) tNil)) (tBM K "list" (rIndexD K) (tVar 3) (tCons (tVar 7) tNil))) tNil))) rfl scBuilt.nd (pi_range1 (by rfl) T.range (pa_cons (pv 5) pa_nil))
            (blkOk_by (N := nBuilt) (sc := (defScope sBuilt)) (by decide +kernel)) (fun _ _ _ _ _ => (pg_name (i := 7) scBuilt.nd rfl (Or.inl rfl))) (fun _ _ _ _ _ => by exact pts_nil)
            (fun _ _ _ _ _ => by exact (pe_callTy call_int1 (by rfl) T.int PyProof.Rows.boot_int (pa_cons (pe_cmpR op_lt (pe_bm PySem.F.plainAttrs_list PySem.F.slot_list_index PySem.F.type_list_index (mt_indexD h65) (pv 3) (pa_cons (pv 5) pa_nil)) (pe_bm PySem.F.plainAttrs_list PySem.F.slot_list_index PySem.F.type_list_index (mt_indexD h65) (pv 3) (pa_cons (pv 7) pa_nil)) (nomark _)) pa_nil)))) pa_nil)))))
      (pss_cons (ps_for PassesOwn.never rfl (pi_range1 (by rfl) T.range (pa_cons (pe_use ULrandom hr (by rfl) (pa_cons (pv 0) (pa_cons (pe_op op_add (pv 2) pe_int) pa_nil))) pa_nil)) (pg_name (i := 8) scBuilt.nd rfl (Or.inl rfl))
        (pss_cons (ps_par (i := 9) (j := 10) rfl scBuilt.nd rfl rfl (by decide) rfl rfl (pa_cons (pe_use ULrandom hr (by rfl) (pa_cons (pv 0) (pa_cons (pv 1) pa_nil))) (pa_cons (pe_use ULrandom hr (by rfl) (pa_cons (pv 0) (pa_cons (pv 1) pa_nil))) pa_nil)) (by rfl))
        (pss_one (ps_if (pt_cmpR op_ne (pv 9) (pv 10) (nomark _))
          (pss_one (ps_set (i := 4) scBuilt.nd rfl (Or.inl rfl) (pe_use ULturned (hr.mono (by decide)) (by rfl) (pa_cons (pv 4) (pa_cons (pv 9) (pa_cons (pv 10) pa_nil)))))) pss_nil))))
      (pss_one (ps_ret (pv 4))))))), ?_⟩
    have g0 : ∀ {p : Addr}, H p = none → p ≠ g := fun h z => by
      obtain ⟨a, b, c, e, _⟩ := G
      rw [z, e] at h
      cases h
    refine ⟨Nat.zero_le _, fun o0 ho0 => ?_⟩
    obtain ⟨J0, e0, s0, f0⟩ := gen H ho0 (.lst [])
    rw [e0]
    clear e0
    refine ⟨Nat.zero_le _, fun r0 hr0 => ?_⟩
    obtain ⟨J1, e1, s1, f1⟩ := gen J0 hr0 (.lst [])
    rw [e1]
    clear e1
    refine ⟨(by show 2 ≤ sizeLine; decide), fun T hT => ?_⟩
    refine ⟨T, [.ref o0, .ref r0], rfl, SqT.of upd_same, rfl, _, _, rfl, _, _, rfl, rfl, ?_⟩
    obtain ⟨J2, e2, s2, f2⟩ := gen J1 hT (.tup [.ref o0, .ref r0])
    rw [e2]
    clear e2
    have s02 := s0.trans (s1.trans s2)
    have hr00 := s0.free hr0
    have rg : r0 ≠ g := g0 hr00
    refine ⟨_, rfl, m, rfl, by omega, by omega, ?_⟩
    refine for_range (lo := 0) (n := (m : Int).toNat) (fun i σ H' => ∃ (o : Addr) (os : List Nat) (e5 e6 e7 e8 e9 ex : Option V), σ = [some (.ref g), some (.int m), some (.int wi), some (.ref o), some (.ref r0), e5, e6, e7, e8, e9, ex] ∧ But g H H' ∧ Gen H' g (n + 300 - 5 * i) ∧ H o = none ∧ o ≠ r0 ∧ H' o = some (.lst (natV os)) ∧ os.Nodup ∧ (∀ p, p ∈ os ↔ p < i) ∧ H' r0 = some (.lst []))
      ⟨o0, [], none, none, none, none, none, none, rfl, .of s02, (G.same s02).less (by omega), ho0, ne_of_none f0 hr0, s2 _ _ (s1 _ _ f0), .nil, fun p => by simp, s2 _ _ f1⟩ ?_ ?_
    · rintro i σ H' hi ⟨o, os, e5, e6, e7, e8, e9, ex, rfl, bt, G', no, nor, ho, nd, mem, hr⟩
      have lo := all_below nd mem
      have i0 : (0 + (i : Int)) = ((i : Nat) : Int) := Int.zero_add _
      have og : o ≠ g := g0 no
      refine ⟨_, rfl, _, rfl, _, rfl, _, _, rfl, rfl, g, 0 + (i : Int) + 1, n + 295 - 5 * i, rfl, by omega, by omega, G'.less (by omega), fun r H2 q0 q1 G2 b2 => ?_⟩
      have ho2 := b2 _ _ ho og
      have hr2 := b2 _ _ hr rg
      refine ⟨r, rfl, o, _, rfl, SqL.of ho2, fun c hc => ?_⟩
      obtain ⟨k, rfl⟩ : ∃ k : Nat, r = (k : Int) := ⟨r.toNat, by omega⟩
      have ec : cutV (natV os) none (some (k : Int)) = natV (os.take k) := by
        rw [cut_to (by rw [natV_len]; omega)]
        unfold natV
        rw [List.map_take]
      rw [ec]
      obtain ⟨H3, e3, s3, f3⟩ := gen H2 hc (.lst (natV (os.take k)))
      rw [e3]
      clear e3 ec
      refine ⟨_, rfl, one_le, fun d hd => ?_⟩
      rw [i0]
      obtain ⟨H4, e4, s4, f4⟩ := gen H3 hd (.lst (natV [i]))
      rw [show [V.int ((i : Nat) : Int)] = natV [i] from rfl, e4]
      clear e4
      refine ⟨c, d, _, _, rfl, rfl, s4 _ _ f3, f4, ?_, fun p hp => ?_⟩
      · rw [natV_len, natV_len, List.length_take]
        exact Nat.le_of_lt (small1000 (by simp only [List.length_cons, List.length_nil]; omega))
      have app : ∀ a b : List Nat, natV a ++ natV b = natV (a ++ b) := fun a b => by
        unfold natV
        rw [List.map_append]
      rw [app]
      obtain ⟨H5, e5', s5, f5⟩ := gen H4 hp (.lst (natV (os.take k ++ [i])))
      rw [e5']
      clear e5'
      have s25 := s3.trans (s4.trans s5)
      refine ⟨_, rfl, p, o, _, _, rfl, rfl, f5, s25 _ _ ho2, ?_, fun p2 hp2 => ?_⟩
      · rw [natV_len, natV_len, List.length_append, List.length_take]
        exact Nat.le_of_lt (small1000 (by simp only [List.length_cons, List.length_nil]; omega))
      rw [app]
      obtain ⟨l, hl⟩ : ∃ l, os.take k ++ [i] ++ os = l := ⟨_, rfl⟩
      rw [hl]
      obtain ⟨H6, e6', s6, f6⟩ := gen H5 hp2 (.lst (natV l))
      rw [e6']
      clear e6'
      have s26 := s25.trans s6
      have ll : l.length ≤ 100 := by
        rw [← hl, List.length_append, List.length_append, List.length_take]
        show min k os.length + 1 + os.length ≤ 100
        omega
      have lm : ∀ x, x ∈ l ↔ x < i + 1 := fun x => by
        rw [← hl, List.mem_append, List.mem_append, List.mem_singleton, mem x]
        constructor
        · rintro ((h | h) | h)
          · have := (mem x).mp (List.mem_of_mem_take h)
            omega
          · omega
          · omega
        · intro h
          by_cases c : x = i
          · exact .inl (.inr c)
          · exact .inr (by omega)
      refine ⟨_, rfl, p2, _, rfl, SqL.of f6, fun D hD => ?_⟩
      refine lc_keep (walk_enum (K := K) (a := p2) (xs := natV l)) (fun j => !decide (l.getD j 0 ∈ l.take j)) (fun j => .int ((l.getD j 0 : Nat) : Int)) hD (by rw [natV_len, sizeLine_eq]; omega) (fun H' s' => SqL.of (s' _ _ f6)) ?_ ?_
      · rintro j x H7 H8 N M hj s7 ⟨T1, x1, x2, rfl, nT, rfl, g1, g2⟩ hN hM
        rw [natV_len] at hj
        obtain rfl : x1 = .int ((j : Nat) : Int) := (Option.some.inj g1).symm
        obtain ⟨y, ey, rfl⟩ := natV_get (l := l) (i := j) g2
        have ed : l.getD j 0 = y := by rw [List.getD_eq_getElem?_getD, ey]; rfl
        have sT := same_new (o := .tup [.int ((j : Nat) : Int), .int ((y : Nat) : Int)]) nT
        refine ⟨T1, [.int ((j : Nat) : Int), .int ((y : Nat) : Int)], rfl, SqT.of upd_same, rfl, _, _, rfl, _, _, rfl, rfl, ?_⟩
        refine ⟨rfl, ?_⟩
        refine ⟨_, rfl, _, rfl, _, rfl, j, rfl, p2, _, rfl, SqL.of (sT _ _ (s7 _ _ f6)), fun c2 hc2 => ?_⟩
        have ec2 : cutV (natV l) none (some (j : Int)) = natV (l.take j) := by
          rw [cut_to (by rw [natV_len]; omega)]
          unfold natV
          rw [List.map_take]
        rw [ec2]
        refine ⟨c2, _, rfl, .inl (SqL.of upd_same), rfl, flat_nat _, _, rfl, ?_⟩
        show ite ((!inV (.int (y : Nat)) (natV (l.take j))) = true) _ _
        rw [inV_nat]
        rw [ed] at hN hM
        cases e : (!decide (y ∈ l.take j)) with
        | true => exact iteT ⟨_, rfl, hN _ e (sT.trans (same_new hc2))⟩
        | false => exact iteF (hM _ e (sT.trans (same_new hc2)))
      · intro H7 s7 h7
        rw [natV_len] at h7
        have h7' : H7 D = some (.lst (natV (dedN l))) := by
          rw [h7]
          unfold dedN natV
          rw [List.map_map]
          rfl
        have b7 : But g H' H7 := b2.trans (.of (s26.trans s7))
        have nD : H D = none := but_free (g := g) (bt.trans (b2.trans (.of s26))) ((G2.same s26)) hD
        refine ⟨D, dedN l, _, _, _, _, _, _, rfl, bt.trans b7, (G2.same (s26.trans s7)).less (by omega), nD, ?_, h7', dedN_nodup l, fun x => by rw [dedN_mem, lm], s7 _ _ (s26 _ _ hr2)⟩
        exact fun z => by
          have := s26 _ _ hr2
          rw [← z, hD] at this
          cases this
    · rintro σ H1 ⟨o, os, e5, e6, e7, e8, e9, ex, rfl, bt, G1, no, nor, ho, nd, mem, hr⟩
      have og : o ≠ g := g0 no
      rw [Int.toNat_natCast] at G1 mem
      refine ⟨_, rfl, m, rfl, by omega, by omega, ?_⟩
      refine for_range (lo := 0) (n := (m : Int).toNat) (fun i σ H' => ∃ (e5 e6 e7 e8 e9 ex : Option V), σ = [some (.ref g), some (.int m), some (.int wi), some (.ref o), some (.ref r0), e5, e6, e7, e8, e9, ex] ∧ But r0 H1 H' ∧ ∃ rs kss, Tab H' r0 rs kss ∧ kss.length = i ∧ Fine 2 kss ∧ r0 ∉ rs ∧ ∀ r ∈ rs, H1 r = none)
        ⟨e5, e6, e7, e8, e9, ex, rfl, But.refl, [], [], ⟨hr, rfl, by simp, by simp⟩, rfl, Fine.nil, by simp, by simp⟩ ?_ ?_
      · rintro i σ H' hi ⟨e5, e6, e7, e8, e9, ex, rfl, b3, rs, kss, t, lk, fine, nr, nR⟩
        have i0 : (0 + (i : Int)) = ((i : Nat) : Int) := Int.zero_add _
        rw [i0]
        refine ⟨_, rfl, .inl ⟨rfl, _, SqL.of t.top⟩, ?_⟩
        refine ⟨_, rfl, (i : Int), rfl, by omega, by omega, fun D hD => ?_⟩
        have ho3 := b3 _ _ ho nor
        refine lc_vals (walk_nat (n := (i : Int).toNat)) (fun j => .int (if decide (((os.idxOf i : Nat) : Int) < ((os.idxOf j : Nat) : Int)) = true then 1 else 0)) hD (by rw [sizeLine_eq]; omega) (fun _ _ => trivial) ?_ ?_
        · rintro j x H5 H6 N hj s5 ⟨rfl, rfl⟩ hN
          refine ⟨rfl, ?_⟩
          have ho5 := s5 _ _ ho3
          refine ⟨_, rfl, .inl ⟨rfl, _, SqL.of ho5⟩, _, rfl, ?_⟩
          dsimp only [tNil]
          refine index_of nd ho5 ((mem i).mpr (by omega)) ?_
          refine ⟨_, rfl, .inl ⟨rfl, _, SqL.of ho5⟩, _, rfl, ?_⟩
          dsimp only [tNil]
          refine index_of nd ho5 ((mem j).mpr (by omega)) ?_
          exact ⟨_, _, rfl, rfl, .inr ⟨_, rfl, hN _ (Same.refl _)⟩⟩
        · intro H5 s5 h5
          rw [Int.toNat_natCast] at h5
          have h5' : H5 D = some (.lst (((List.range i).map fun j => if decide (((os.idxOf i : Nat) : Int) < ((os.idxOf j : Nat) : Int)) = true then (1 : Int) else 0).map V.int)) := by
            rw [h5, List.map_map]
            rfl
          have t5 := t.same s5
          refine ⟨r0, _, _, rfl, rfl, t5.top, ?_, ?_⟩
          · rw [List.length_map, t.len, lk]
            exact small1000 (by omega)
          obtain ⟨tp, np⟩ := t.push nr (fun r _ o e => s5 r o e) hD h5'
          refine ⟨_, _, _, _, _, _, rfl, fun b u e nb => ?_, _, _, tp, by rw [List.length_append, lk]; rfl, fine.push (by rw [List.length_map, List.length_range, lk]) (fun z hz => ?_), np, fun r hr' => ?_⟩
          · rw [upd_ne nb]
            exact s5 _ _ (b3 b u e nb)
          · obtain ⟨j, _, rfl⟩ := List.mem_map.mp hz
            split <;> omega
          · rcases List.mem_append.mp hr' with z | z
            · exact nR r z
            · rw [List.mem_singleton] at z
              rw [z]
              cases c : H1 D with
              | none => rfl
              | some u =>
                have dr : D ≠ r0 := fun w => by rw [w, t.top] at hD; cases hD
                rw [b3 _ _ c dr] at hD
                cases hD
      · rintro σ H2 ⟨e5, e6, e7, e8, e9, ex, rfl, b3, rs, kss, t, lk, fine, nr, nR⟩
        rw [Int.toNat_natCast] at lk
        have gr : g ≠ r0 := rg.symm
        have G2 : GL.Gen H2 g (n + 195) := by
          obtain ⟨x, y, z, hg, p1, p2, p3, p4⟩ := G1
          exact ⟨x, y, z, b3 _ _ hg gr, p1, p2, p3, by omega⟩
        have b2 : But g H H2 := fun b u e nb => b3 b u (bt b u e nb) (fun z => by rw [z, hr00] at e; cases e)
        have nR' : ∀ r ∈ rs, H r = none := fun r h => by
          cases c : H r with
          | none => rfl
          | some u =>
            have rg' : r ≠ g := fun z => by
              obtain ⟨x, y, w, hg, _⟩ := G1
              have := nR r h
              rw [z, hg] at this
              cases this
            have := bt r u c rg'
            rw [nR r h] at this
            cases this
        refine ⟨_, rfl, _, rfl, _, _, rfl, rfl, g, (wi : Int) + 1, n + 190, rfl, by omega, by omega, G2.less (by omega), fun r H3 q0 q1 G3 b3' => ?_⟩
        refine ⟨r, rfl, by omega, by omega, ?_⟩
        have tb : ∀ {H' : Hp}, But g H2 H' → Tab H' r0 rs kss := fun b => t.but b rg (notin_new (H := H) (g := g) (n := n) (rs := rs) (G.less (by omega)) nR')
        refine for_range (lo := 0) (n := r.toNat) (fun i σ H' => ∃ (c : Addr) (e5 e6 e7 e8 e9 ex : Option V), σ = [some (.ref g), some (.int m), some (.int wi), some (.ref o), some (.ref c), e5, e6, e7, e8, e9, ex] ∧ But g H H' ∧ GL.Gen H' g (n + 190 - 10 * i) ∧ ∃ rs kss, Tab H' c rs kss ∧ kss.length = m ∧ Fine 2 kss ∧ c ∉ rs ∧ H c = none ∧ ∀ r ∈ rs, H r = none)
          ⟨r0, _, _, _, _, _, _, rfl, b2.trans b3', G3, rs, kss, tb b3', lk, fine, nr, hr00, nR'⟩ ?_ ?_
        · rintro i σ H4 hi ⟨c, e5, e6, e7, e8, e9, ex, rfl, b4, G4, rs, kss, t, lk, fine, nc, hc, nR⟩
          have i10 : i < 11 := by omega
          refine ⟨_, rfl, _, rfl, g, (m : Int), n + 185 - 10 * i, rfl, by omega, by omega, G4.less (by omega), fun x H5 x0 x1 G5 b5 => ?_⟩
          refine ⟨_, rfl, _, rfl, g, (m : Int), n + 180 - 10 * i, rfl, by omega, by omega, G5.less (by omega), fun y H6 y0 y1 G6 b6 => ?_⟩
          obtain ⟨a, rfl⟩ : ∃ a : Nat, x = (a : Int) := ⟨x.toNat, by omega⟩
          obtain ⟨b, rfl⟩ : ∃ b : Nat, y = (b : Int) := ⟨y.toNat, by omega⟩
          have cg : c ≠ g := g0 hc
          have t6 : Tab H6 c rs kss := t.but (b5.trans b6) cg (notin_new (H := H) (g := g) (n := n) (rs := rs) (G.less (by omega)) nR)
          have b46 := b4.trans (b5.trans b6)
          refine ⟨_, _, rfl, ?_⟩
          refine ⟨_, rfl, _, rfl, rfl, _, rfl, ?_⟩
          by_cases ne : a = b
          · refine iteNS (by rw [ne]) ?_
            exact ⟨c, _, _, _, _, _, _, rfl, b46, G6.less (by omega), rs, kss, t6, lk, fine, nc, hc, nR⟩
          · refine ite2 (fun _ => ?_) (fun z => (z ?_).elim)
            · refine ⟨_, rfl, _, rfl, _, rfl, c, rs, kss, a, b, rfl, t6, fine, by omega, by omega, by omega, ne, fun p ps H7 s7 np nps pps tw => ?_⟩
              exact ⟨p, _, _, _, _, _, _, rfl, b46.trans (.of s7), (G6.same s7).less (by omega), ps, _, tw, by rw [turnK_len, lk], turnK_fine fine (by omega) (by omega), pps, but_free b46 G6 np, fun r h => but_free b46 G6 (nps r h)⟩
            · have : ¬ (V.int (a : Int) = V.int (b : Int)) := fun w => ne (by have := V.int.inj w; omega)
              simp [this]
        · rintro σ H4 ⟨c, e5, e6, e7, e8, e9, ex, rfl, b4, G4, rs, kss, t, lk, fine, nc, hc, nR⟩
          exact ⟨_, rfl, q c H4 b4 (G4.less (by omega)) ⟨rs, kss, t, lk, fine, nc, hc, nR⟩⟩
end
end K58

/-! Rows of people under other names. -/
namespace GL
open PySem PySem.Spec PyProof.Rows
open L2 hiding spCell
section
variable {w : Nat → Nat} {n i j m m' : Nat} {kss kts : List (List Int)} {rows rows' : List (List Nat)} {H : Hp} {R0 p : Addr} {rs : List Addr} {ps : List (Int × Addr)}
theorem up_mem (U : Up w n) {l : List Nat} (low : ∀ x ∈ l, x < n) {x : Nat} (hx : x < n) : w x ∈ l.map w ↔ x ∈ l := ⟨fun h => by
  obtain ⟨y, hy, e⟩ := List.mem_map.mp h
  rw [← U.inj (low y hy) hx e]
  exact hy, fun h => List.mem_map_of_mem h⟩
theorem nextsW_at {k : Key} {v : V} (h : (dP (nextsW w kss m))[i]? = some (k, v)) : ∃ p q, (nextsTo kss m)[i]? = some (p, q) ∧ k = Sum.inl ((w p : Nat) : Int) ∧ v = .int ((w q : Nat) : Int) := by
  obtain ⟨p, q, e, rfl, rfl⟩ := dP_at h
  unfold nextsW at e
  rw [List.getElem?_map] at e
  cases c : (nextsTo kss m)[i]? with
  | none => rw [c] at e; cases e
  | some d =>
    rw [c] at e
    cases e
    exact ⟨d.1, d.2, rfl, rfl, rfl⟩
theorem led_low (f : Fine 2 kss) {q : Nat} (h : q ∈ ledN kss) : q < kss.length := by
  obtain ⟨p, s⟩ := (led_mem f).mp h
  exact s.2.1
theorem dP_nextW (U : Up w kss.length) (f : Fine 2 kss) {p : Nat} (hp : p < kss.length) : valV (dP (nextsW w kss kss.length)) (Sum.inl ((w p : Nat) : Int)) = (nextP kss p).map fun q => V.int ((w q : Nat) : Int) := by
  have gen : ∀ cs : List (Nat × Nat), (∀ c ∈ cs, c.1 < kss.length) → valV (dP (cs.map fun c => (w c.1, w c.2))) (Sum.inl ((w p : Nat) : Int)) = (cs.find? fun c => decide (c.1 = p)).map fun c => V.int ((w c.2 : Nat) : Int) := by
    intro cs low
    unfold valV dP
    rw [List.map_map, List.find?_map, Option.map_map]
    have e : ∀ c ∈ cs, ((fun kv : Key × V => decide (kv.1 = Sum.inl ((w p : Nat) : Int))) ∘ ((fun c : Nat × Nat => ((Sum.inl ((c.1 : Nat) : Int) : Key), V.int ((c.2 : Nat) : Int))) ∘ fun c : Nat × Nat => (w c.1, w c.2))) c = decide (c.1 = p) := by
      intro c hc
      show decide ((Sum.inl ((w c.1 : Nat) : Int) : Key) = Sum.inl ((w p : Nat) : Int)) = _
      exact decide_eq_decide.mpr ⟨fun z => U.inj (low c hc) hp (by have := Sum.inl.inj z; omega), fun z => by rw [z]⟩
    rw [find_same e]
    rfl
  have old : ∀ cs : List (Nat × Nat), valV (dP cs) (Sum.inl ((p : Nat) : Int)) = (cs.find? fun c => decide (c.1 = p)).map fun c => V.int ((c.2 : Nat) : Int) := by
    intro cs
    unfold valV dP
    rw [List.find?_map, Option.map_map]
    have e : ((fun kv : Key × V => decide (kv.1 = Sum.inl ((p : Nat) : Int))) ∘ fun c : Nat × Nat => ((Sum.inl ((c.1 : Nat) : Int) : Key), V.int ((c.2 : Nat) : Int))) = fun c => decide (c.1 = p) := by
      funext c
      show decide ((Sum.inl ((c.1 : Nat) : Int) : Key) = Sum.inl ((p : Nat) : Int)) = _
      exact decide_eq_decide.mpr ⟨fun z => by have := Sum.inl.inj z; omega, fun z => by rw [z]⟩
    rw [e]
    rfl
  unfold nextsW
  rw [gen _ fun c hc => (nexts_mem (p := c.1) (q := c.2)).mp hc |>.1]
  have o := dP_next f hp
  rw [old] at o
  cases e : (nextsTo kss kss.length).find? (fun c => decide (c.1 = p)) with
  | none =>
    rw [e] at o
    cases e2 : nextP kss p with
    | none => rfl
    | some q => rw [e2] at o; cases o
  | some c =>
    rw [e] at o
    cases e2 : nextP kss p with
    | none => rw [e2] at o; cases o
    | some q =>
      rw [e2] at o
      have : c.2 = q := by
        have z : V.int ((c.2 : Nat) : Int) = V.int ((q : Nat) : Int) := Option.some.inj o
        have := V.int.inj z
        omega
      show some (V.int ((w c.2 : Nat) : Int)) = some (V.int ((w q : Nat) : Int))
      rw [this]
theorem min_map (U : Up w n) {l : List Nat} (h : l ≠ []) (low : ∀ x ∈ l, x < n) : minL (l.map w) = w (minL l) := by
  obtain ⟨a1, a2⟩ := minL_ok h
  obtain ⟨b1, b2⟩ := minL_ok (l := l.map w) (fun z => h (List.map_eq_nil_iff.mp z))
  obtain ⟨y, hy, e⟩ := List.mem_map.mp b1
  have h1 := b2 _ (List.mem_map_of_mem (f := w) a1)
  have h2 := U.le (a2 y hy) (low y hy)
  omega
theorem sorted_rowsW (U : Up w kss.length) (RA : RowsAt H R0 rs (rows.map (List.map w))) (R : RowsOf kss rows) (hp : H p = none) (pm : ps.Perm (((rows.map (List.map w)).map fun l => ((minL l : Nat) : Int)).zip rs)) (so : ps.Pairwise fun x y => x.1 ≤ y.1) :
    ∃ rs' rows', RowsAt (upd H p (.lst (ps.map fun x => V.ref x.2))) p rs' (rows'.map (List.map w)) ∧ RowsOf kss rows' ∧ MinUp rows' ∧ rs'.Perm rs := by
  have len : rows.length = rs.length := by have := RA.len; rwa [List.length_map] at this
  have ez : ((rows.map (List.map w)).map fun l => ((minL l : Nat) : Int)).zip rs = (rows.zip rs).map fun x => (((minL (x.1.map w) : Nat) : Int), x.2) := by
    rw [List.map_map, List.zip_map_left]
    rfl
  rw [ez] at pm
  obtain ⟨m, pz, rfl⟩ := perm_map_back _ pm
  have p1 : (m.map (·.1)).Perm rows := by
    have := pz.map (·.1)
    rwa [List.map_fst_zip (Nat.le_of_eq len)] at this
  have p2 : (m.map (·.2)).Perm rs := by
    have := pz.map (·.2)
    rwa [List.map_snd_zip (Nat.le_of_eq len.symm)] at this
  have R2 := R.perm p1
  refine ⟨m.map (·.2), m.map (·.1), ⟨?_, by rw [List.length_map, List.length_map, List.length_map], fun i r l hr hl => ?_, p2.nodup_iff.mpr RA.nd⟩, R2, ?_, p2⟩
  · rw [upd_same, List.map_map, List.map_map]
    rfl
  · rw [List.getElem?_map, List.getElem?_map] at hl
    rw [List.getElem?_map] at hr
    cases e : m[i]? with
    | none => rw [e] at hr; cases hr
    | some x =>
      rw [e] at hr hl
      cases hr
      cases hl
      obtain ⟨j, hj⟩ := List.mem_iff_getElem?.mp (pz.mem_iff.mp (List.mem_of_getElem? e))
      rw [List.getElem?_zip_eq_some] at hj
      have := RA.row j _ (x.1.map w) hj.2 (by rw [List.getElem?_map, hj.1]; rfl)
      rw [upd_ne (ne_of_none this hp)]
      exact this
  · unfold MinUp
    rw [List.pairwise_map] at so ⊢
    have d := disj_of R2.nd
    rw [List.pairwise_map] at d
    refine (List.Pairwise.and so d).imp_of_mem fun {x y} hx hy h => ?_
    have mx := List.mem_map_of_mem (f := (·.1)) hx
    have my := List.mem_map_of_mem (f := (·.1)) hy
    have bx := R2.big x.1 mx
    have by' := R2.big y.1 my
    have nx : x.1 ≠ [] := fun z => by rw [z] at bx; simp at bx
    have ny : y.1 ≠ [] := fun z => by rw [z] at by'; simp at by'
    obtain ⟨x1, x2⟩ := minL_ok nx
    obtain ⟨y1, y2⟩ := minL_ok ny
    refine ⟨_, x1, x2, _, y1, y2, ?_⟩
    have h1 : ((minL (x.1.map w) : Nat) : Int) ≤ ((minL (y.1.map w) : Nat) : Int) := h.1
    rw [min_map U nx (R2.low x.1 mx), min_map U ny (R2.low y.1 my)] at h1
    have h2 : minL x.1 ≠ minL y.1 := fun z => h.2 _ x1 (z ▸ y1)
    have lx := R2.low x.1 mx _ x1
    refine Classical.byContradiction fun no => ?_
    have := U.lt (minL y.1) (minL x.1) (by omega) lx
    omega
/-! ### what is sure, by names -/
def sureF (w : Nat → Nat) (kss : List (List Int)) (rows : List (List Nat)) (p : Nat) : Nat := liftW w kss.length (sureN kss rows p)
theorem sureN_out {q : Nat} (hj : kss.length ≤ j) : (sureN kss rows q).testBit j = false := by
  unfold sureN
  rw [bitsBy_bit, decide_eq_false (by omega), Bool.false_and]
theorem sureF_same (U : Up w kss.length) (l : kts.length = kss.length) {q : Nat} : sureF w kss rows q = sureF w kts rows' q ↔ sureN kss rows q = sureN kts rows' q := by
  unfold sureF
  rw [l, liftW_same U]
  exact eq_low (fun j hj => sureN_out hj) fun j hj => sureN_out (by omega)
theorem sureF_nil (hp : m < kss.length) : sureF w kss [] m = beatF w kss m := by
  unfold sureF beatF
  rw [sure_nil hp]
theorem dG_congr {g h h' : Nat → Nat} (e : ∀ i, i < n → h i = h' i) : dG n g h = dG n g h' := by
  unfold dG
  exact List.map_congr_left fun i hi => by rw [e i (List.mem_range.mp hi)]
theorem dG_atU (U : Up w n) {h : Nat → Nat} (hi : i < n) : valV (dG n w h) (Sum.inl ((w i : Nat) : Int)) = some (V.int ((h i : Nat) : Int)) := dG_at hi fun j hj e => U.inj hj hi e
theorem dG_put (U : Up w n) {v : Nat} {f : Nat → Nat} (h : i < n) : putK (dG n w f) (Sum.inl ((w i : Nat) : Int)) (V.int ((v : Nat) : Int)) = dG n w fun j => if j = i then v else f j := by
  unfold putK
  rw [valV_any, dG_atU U h]
  show (dG n w f).map _ = _
  unfold dG
  rw [List.map_map]
  refine List.map_congr_left fun j hj => ?_
  show (if (Sum.inl ((w j : Nat) : Int) : Key) = Sum.inl ((w i : Nat) : Int) then _ else _) = _
  by_cases c : j = i
  · subst c
    rw [if_pos rfl]
    show (_, V.int ((v : Nat) : Int)) = (_, V.int (((if j = j then v else f j) : Nat) : Int))
    rw [if_pos rfl]
  · rw [if_neg (fun z => c (U.inj (List.mem_range.mp hj) h (by have := Sum.inl.inj z; omega)))]
    show (_, V.int ((f j : Nat) : Int)) = (_, V.int (((if j = i then v else f j) : Nat) : Int))
    rw [if_neg c]
theorem getU (U : Up w n) {D : Addr} {f : Nat → Nat} (h : H D = some (.dK (dG n w f))) (hi : i < n) : DGet H D (.int ((w i : Nat) : Int)) (some (.int ((f i : Nat) : Int))) := by
  have := DGet.k (k := Sum.inl ((w i : Nat) : Int)) h
  rw [dG_atU U hi] at this
  exact this
theorem putU {D : Addr} {f : Nat → Nat} {v : V} (i : Nat) (h : H D = some (.dK (dG n w f))) (hn : n < 1000) : DPut H D (.int ((w i : Nat) : Int)) v (upd H D (.dK (putK (dG n w f) (Sum.inl ((w i : Nat) : Int)) v))) :=
  DPut.k (k := Sum.inl ((w i : Nat) : Int)) h (by rw [dG_len]; exact small1000 (by omega))
theorem same_dG (U : Up w n) (f g : Nat → Nat) : sameN (dG n w f) (dG n w g) = true ↔ ∀ p < n, f p = g p := by
  unfold sameN
  rw [dG_len, dG_len, beq_self_eq_true, Bool.true_and, List.all_eq_true]
  constructor
  · intro h p hp
    have := h (Sum.inl ((w p : Nat) : Int), V.int ((f p : Nat) : Int)) (List.mem_map.mpr ⟨p, List.mem_range.mpr hp, rfl⟩)
    unfold hitN at this
    dsimp only at this
    rw [dG_atU U hp] at this
    have e := eq_of_beq (show (((f p : Nat) : Int) == ((g p : Nat) : Int)) = true from this)
    omega
  · intro h x hx
    obtain ⟨p, hp, rfl⟩ := List.mem_map.mp hx
    have hp := List.mem_range.mp hp
    unfold hitN
    dsimp only
    rw [dG_atU U hp]
    show (((f p : Nat) : Int) == ((g p : Nat) : Int)) = true
    rw [h p hp, beq_self_eq_true]
theorem dG_flat (f : Nat → Nat) : ∀ p ∈ dG n w f, flatV p.2 = true := fun x hx => by
  obtain ⟨p, hp, rfl⟩ := List.mem_map.mp hx
  rfl
end
def spRowsF : Sp := fun vs H Q _ => ∃ (d : Addr) (kss : List (List Int)) (w : Nat → Nat), vs = [.ref d] ∧ H d = some (.dK (dG kss.length w (beatF w kss))) ∧ Fine 2 kss ∧ kss.length ≤ 40 ∧ Up w kss.length ∧
  ∀ (p : Addr) (rs : List Addr) (rows : List (List Nat)) (H' : Hp), Same H H' → H p = none → (∀ r ∈ rs, H r = none) → p ∉ rs → RowsAt H' p rs (rows.map (List.map w)) → RowsOf kss rows → MinUp rows → Q (.ref p) H'
def spSureF : Sp := fun vs H Q _ => ∃ (d p : Addr) (rs : List Addr) (kss : List (List Int)) (rows : List (List Nat)) (w : Nat → Nat), vs = [.ref d, .ref p] ∧ H d = some (.dK (dG kss.length w (beatF w kss))) ∧ Fine 2 kss ∧ kss.length ≤ 40 ∧ Up w kss.length ∧ RowsAt H p rs (rows.map (List.map w)) ∧ RowsOf kss rows ∧
  ∀ (e : Addr) (H' : Hp), Same H H' → H e = none → H' e = some (.dK (dG kss.length w (sureF w kss rows))) → Q (.ref e) H'
def spOneF : Sp := fun vs H Q _ => ∃ (d e : Addr) (kss kts : List (List Int)) (w : Nat → Nat), vs = [.ref d, .ref e] ∧ H d = some (.dK (dG kss.length w (beatF w kss))) ∧ H e = some (.dK (dG kts.length w (beatF w kts))) ∧ Fine 2 kss ∧ Fine 2 kts ∧ kts.length = kss.length ∧ kss.length ≤ 40 ∧ Up w kss.length ∧
  ∀ (b : Bool) (H' : Hp), Same H H' → (b = true ↔ JK kss kts) → Q (.bl b) H'
end GL

namespace K58
open PySem PySem.Spec PyProof.Rows
open L2 hiding spCell
open GL
section
variable {P : Program} {w : World} {K : PySem.W.Frag} {mg : Str → Option Value} {base : Heap}
abbrev sBits : Stmt := topS 12
abbrev nBits : List Str := ["people", "bits", "person"]
theorem scBits : FnScope nBits ["people"] (defScope sBits) := ⟨rfl, rfl, rfl, by decide +kernel, rfl, by decide +kernel, by decide +kernel⟩
theorem ok_bits {f : Addr} {fd : FuncData} (F : Fun K "bits_of" "bits_of" sBits f fd) (T : Bi mg) : FnOk P w K mg base CX0 1 f fd ["people"] spBits := by
  refine F.ok scBits (fun vs H Q E h => ?_) (fun cdv A outer s H vs Q E hr h => ?_)
  · obtain ⟨o, l, rfl, _⟩ := h
    rfl
  · obtain ⟨o, l, rfl, ho, low, q⟩ := h
    refine ⟨_, (pss_cons (ps_set (i := 1) scBits.nd rfl (Or.inl rfl) pe_int)
      (pss_cons (ps_for PassesOwn.never rfl (pi_list (pv 0)) (pg_name (i := 2) scBits.nd rfl (Or.inl rfl))
        (pss_one (ps_aug (i := 1) scBits.nd rfl (Or.inl rfl) (pe_op opN_shl pe_int (pv 2)) iopN_or)))
      (pss_one (ps_ret (pv 1))))), ?_⟩
    refine ⟨_, rfl, o, rfl, ⟨_, SqL.of ho⟩, ?_⟩
    refine for_list (K := K) (a := o) (xs := natV l) (fun i σ H' => H' = H ∧ ∃ e : Option V, σ = [some (.ref o), some (.int ((bitsN (l.take i) : Nat) : Int)), e]) ⟨rfl, none, rfl⟩ (fun i σ H' _ z => by rw [z.1]; exact SqL.of ho) ?_ ?_
    · rintro i x σ H' hx ⟨rfl, e, rfl⟩
      obtain ⟨p, hp, rfl⟩ := natV_get hx
      refine ⟨_, rfl, _, rfl, p, rfl, rfl, low p (List.mem_of_getElem? hp), _, _, rfl, rfl, rfl, some (.int ((p : Nat) : Int)), ?_⟩
      unfold bitsN
      rw [List.take_add_one, hp, List.foldl_append]
      rfl
    · rintro σ H' ⟨rfl, e, rfl⟩
      refine ⟨_, rfl, ?_⟩
      unfold natV
      rw [List.length_map, List.take_length]
      exact q
abbrev sRowsF : Stmt := topS 19
abbrev nRowsF : List Str := ["beaten", "behind", "led", "person", "rows", "row"]
theorem scRowsF : FnScope nRowsF ["beaten"] (defScope sRowsF) := ⟨rfl, rfl, rfl, by decide +kernel, rfl, by decide +kernel, by decide +kernel⟩
theorem ok_rowsF {f : Addr} {fd : FuncData} (F : Fun K "rows_in" "rows_in" sRowsF f fd) (T : Bi mg) (Unextinrows : Use P w K mg base "next_in_rows" ["beaten"] spNextF 1) : FnOk P w K mg base CX0 2 f fd ["beaten"] spRowsF := by
  refine F.ok scRowsF (fun vs H Q E h => ?_) (fun cdv A outer s H vs Q E hr h => ?_)
  · obtain ⟨d, kss, w, rfl, _⟩ := h
    rfl
  · obtain ⟨d, kss, w, rfl, hd, fine, n40, U, q⟩ := h
    refine ⟨_, (pss_cons (ps_set (i := 1) scRowsF.nd rfl (Or.inl rfl) (pe_use Unextinrows hr (by rfl) (pa_cons (pv 0) pa_nil)))
      (pss_cons (ps_lock (ps_setDc (i := 2) (own := [("person", 3)]) (g := (gName 3)) rfl scRowsF.nd rfl rfl (sw_trueD rfl rfl rfl (by decide +kernel)) (pi_values (pv 1)) (blkOk_by (N := nRowsF) (sc := (defScope sRowsF)) (by decide +kernel)) (fun _ _ _ _ _ => (pg_name (i := 3) scRowsF.nd rfl (Or.inl rfl))) (fun _ _ _ _ _ => by exact pts_nil) (fun _ _ _ _ _ => by exact (pv 3)) (fun _ _ _ _ _ => by exact pe_bl)))
      (pss_cons (ps_set (i := 4) scRowsF.nd rfl (Or.inl rfl) (pe_lst pa_nil))
      (pss_cons (ps_lock (ps_for PassesOwn.never rfl (pi_keys (pv 1)) (pg_name (i := 3) scRowsF.nd rfl (Or.inl rfl))
        (pss_one (ps_if (pt_cmp (pc_dnotin (hu_of hr) (pv 3) (pv 2)))
          (pss_cons (ps_set (i := 5) scRowsF.nd rfl (Or.inl rfl) (pe_lst (pa_cons (pv 3) pa_nil)))
          (pss_cons (ps_while PassesOwn.never (pt_cmp (pc_din (hu_of hr) (pe_ix ix_list (pv 5) (pe_un un_neg pe_int) (fun _ _ => rfl)) (pv 1)))
            (pss_one (ps_expr (pe_bm PySem.F.plainAttrs_list PySem.F.slot_list_append PySem.F.type_list_append mt_append (pv 5) (pa_cons (pe_dget (hu_of hr) (pv 1) (pe_ix ix_list (pv 5) (pe_un un_neg pe_int) (fun _ _ => rfl)) (fun _ _ => rfl)) pa_nil)))))
          (pss_one (ps_expr (pe_bm PySem.F.plainAttrs_list PySem.F.slot_list_append PySem.F.type_list_append mt_append (pv 4) (pa_cons (pv 5) pa_nil)))))) pss_nil))))
      (pss_one (ps_ret (pe_sortMin rfl (by rfl) T.sorted (by rfl) T.min (pa_cons (pv 4) pa_nil)))))))), ?_⟩
    refine ⟨_, rfl, d, kss, w, rfl, hd, fine, n40, U, fun B H1 s1 nB hB => ?_⟩
    have len : (dP (nextsW w kss kss.length)).length = (persN kss).length := by
      unfold dP persN nextsW
      rw [List.length_map, List.length_map, List.length_map]
    have lpl : (ledN kss).length = (persN kss).length := by
      unfold ledN persN
      rw [List.length_map, List.length_map]
    have l40 : (persN kss).length ≤ 40 := Nat.le_trans pers_len n40
    refine ⟨B, _, hB, trivial, fun od => ?_⟩
    refine ⟨_, rfl, B, od, _, rfl, upd_same, fun D hD => ?_⟩
    obtain ⟨hD0, DB⟩ := lock_free hD
    refine dc_it walk_values (fun i H' => Same (upd H1 B (.frz od (.dK (dP (nextsW w kss kss.length))))) H' ∧ H' D = some (.dK (dB (((ledN kss).take i).map w)))) ⟨same_new hD, upd_same⟩ (fun _ _ _ z => z.1 _ _ upd_same) ?_ ?_
    · rintro i x H2 H3 hi ⟨s2, h2⟩ ⟨rfl, k, ek⟩
      rw [len] at hi
      obtain ⟨p, q', ec, rfl, rfl⟩ := nextsW_at ek
      have el : (ledN kss)[i]? = some q' := by
        unfold ledN
        rw [List.getElem?_map, ec]
        rfl
      have ne : q' ∉ (ledN kss).take i := by
        intro z
        obtain ⟨j, hj, e⟩ := List.mem_take_iff_getElem.mp z
        have := (List.getElem?_inj (by omega) (led_nodup fine)).mp ((List.getElem?_eq_some_iff.mpr ⟨by omega, e⟩ : (ledN kss)[j]? = some q').trans el.symm)
        omega
      refine ⟨rfl, yes_of ?_⟩
      refine ⟨_, rfl, _, Sum.inl ((w q' : Nat) : Int), rfl, h2, ?_, fun b o e' => ?_, ?_⟩
      · unfold dB
        rw [List.length_map, List.length_map, List.length_take]
        exact small1000 (by omega)
      · rw [upd_ne (ne_of_none e' hD)]
        exact s2 b o e'
      · rw [upd_same, dB_put (fun z => ne ((up_mem U (fun x hx => led_low fine (List.mem_of_mem_take hx)) (led_low fine (List.mem_of_getElem? el))).mp z)), List.take_add_one, el, List.map_append]
        rfl
    · rintro H2 ⟨s2, h2⟩
      rw [len, ← lpl, List.take_length] at h2
      refine ⟨s2 _ _ upd_same, ?_⟩
      have s3 := unlock hB s2
      have h3 : upd H2 B (.dK (dP (nextsW w kss kss.length))) D = some (.dK (dB ((ledN kss).map w))) := by
        rw [upd_ne DB]
        exact h2
      generalize upd H2 B (.dK (dP (nextsW w kss kss.length))) = H3 at s3 h3
      clear h2 s2 hD
      refine ⟨Nat.zero_le _, fun R0 hR0 => ?_⟩
      obtain ⟨H4, e4, s4, h4⟩ := gen H3 hR0 (.lst [])
      rw [e4]
      clear e4
      have nR0 : H R0 = none := (s1.trans s3).free hR0
      have s34 := (s1.trans s3).trans s4
      have hB4 := s4 _ _ (s3 _ _ hB)
      have hD4 := s4 _ _ h3
      have RB : R0 ≠ B := fun z => by rw [z, s3 _ _ hB] at hR0; cases hR0
      have DR : D ≠ R0 := ne_of_none h3 hR0
      refine ⟨B, _, hB4, trivial, fun od => ?_⟩
      refine ⟨_, rfl, B, od, rfl, .inl ⟨_, upd_same, ?_⟩⟩
      refine for_it walk_keys (fun i σ H' => ∃ (e3 e5 : Option V) (rs : List Addr) (rows : List (List Nat)), σ = [some (.ref d), some (.ref B), some (.ref D), e3, some (.ref R0), e5] ∧ But R0 (upd H4 B (.frz od (.dK (dP (nextsW w kss kss.length))))) H' ∧ RowsAt H' R0 rs (rows.map (List.map w)) ∧ (∀ r ∈ rs, H4 r = none) ∧ R0 ∉ rs ∧ rows.length = (headN kss i).length ∧ ∀ (j h : Nat) (l : List Nat), (headN kss i)[j]? = some h → rows[j]? = some l → ChainOf kss h l)
        ⟨_, _, [], [], rfl, .refl, ⟨by rw [upd_ne RB]; exact h4, rfl, by simp, .nil⟩, by simp, by simp, rfl, by simp⟩ (fun i σ H' _ z => by
          obtain ⟨_, _, _, _, _, bt, _⟩ := z
          exact bt _ _ upd_same RB.symm) ?_ ?_
      · rintro i x σ H0 H5 hi ⟨e3, e5, rs, rows, rfl, bt, RA, nR, RR, ln, ch⟩ ⟨rfl, k, v, ek, rfl⟩
        rw [len] at hi
        obtain ⟨p, q', ec, rfl, rfl⟩ := nextsW_at ek
        have ep : (persN kss)[i]? = some p := by
          unfold persN
          rw [List.getElem?_map, ec]
          rfl
        have hp := pers_low (List.mem_of_getElem? ep)
        have hD5 : H5 D = some (.dK (dB ((ledN kss).map w))) := bt _ _ (by rw [upd_ne DB]; exact hD4) DR
        have hB5 : H5 B = some (.frz od (.dK (dP (nextsW w kss kss.length)))) := bt _ _ upd_same RB.symm
        have hn := head_next ep
        refine ⟨_, rfl, _, rfl, D, _, rfl, DGet.k (k := Sum.inl ((w p : Nat) : Int)) hD5, _, rfl, ?_⟩
        rw [dB_val, decide_eq_decide.mpr (up_mem U (fun x hx => led_low fine hx) hp)]
        by_cases c : p ∈ ledN kss
        · rw [if_pos c, List.append_nil] at hn
          rw [decide_eq_true c]
          refine iteF ?_
          exact ⟨_, _, rs, rows, rfl, bt, RA, nR, RR, by rw [hn]; exact ln, by rw [hn]; exact ch⟩
        · rw [if_neg c] at hn
          rw [decide_eq_false c]
          refine iteT ?_
          obtain ⟨r, C⟩ := chain_exists fine _ hp (Nat.lt_succ_self _)
          have lr := chain_len fine hp C
          have r1 : 0 < r.length := (List.getElem?_eq_some_iff.mp C.at0).1
          refine ⟨_, rfl, one_le, fun c0 hc0 => ?_⟩
          obtain ⟨H6, e6, s6, h6⟩ := gen H5 hc0 (.lst (natV ((r.take 1).map w)))
          have t1 : r.take 1 = [p] := by
            rw [show (1 : Nat) = 0 + 1 from rfl, List.take_add_one, C.at0]
            rfl
          rw [show [kV (Sum.inl ((w p : Nat) : Int))] = natV ((r.take 1).map w) by rw [t1]; rfl, e6]
          clear e6
          refine gName_by ?_
          have cB : c0 ≠ B := fun z => by rw [z, hB5] at hc0; cases hc0
          have cR : c0 ≠ R0 := fun z => by rw [z, RA.top] at hc0; cases hc0
          have at_ : ∀ n < r.length, ∃ z, r[n]? = some z ∧ atI (natV ((r.take (n + 1)).map w)) (-1) = some (.int ((w z : Nat) : Int)) ∧ z < kss.length := fun n hn => by
            obtain ⟨z, hz⟩ : ∃ z, r[n]? = some z := ⟨_, List.getElem?_eq_getElem hn⟩
            refine ⟨z, hz, ?_, chain_low hp C z (List.mem_of_getElem? hz)⟩
            rw [List.take_add_one, hz, List.map_append]
            unfold natV
            rw [List.map_append]
            exact atI_last _ _
          refine while_ws (r.length - 1) (fun n σ H' => σ = [some (.ref d), some (.ref B), some (.ref D), some (.int ((w p : Nat) : Int)), some (.ref R0), some (.ref c0)] ∧ H' = upd H6 c0 (.lst (natV ((r.take (n + 1)).map w)))) ⟨rfl, ?_⟩ ?_ ?_
          · refine funext fun x => ?_
            by_cases e : x = c0
            · rw [e, upd_same, h6]
            · rw [upd_ne e]
          · rintro n σ H7 hn ⟨rfl, rfl⟩
            obtain ⟨z, hz, az, zl⟩ := at_ n (by omega)
            obtain ⟨y, hy, _⟩ := at_ (n + 1) (by omega)
            have nz := (next_nx fine zl).mpr (C.nx n z y hz hy)
            have dg : DGet (upd H6 c0 (.lst (natV ((r.take (n + 1)).map w)))) B (.int ((w z : Nat) : Int)) (some (.int ((w y : Nat) : Int))) := .inl ⟨_, Sum.inl ((w z : Nat) : Int), .inr ⟨od, by rw [upd_ne cB.symm]; exact s6 _ _ hB5⟩, rfl, by rw [dP_nextW U fine zl, nz]; rfl⟩
            refine ⟨_, rfl, _, rfl, c0, _, _, _, rfl, rfl, SqL.of upd_same, az, _, rfl, B, _, rfl, dg, _, rfl, ?_⟩
            refine iteT ⟨_, ws_next hn, ?_⟩
            refine ⟨_, rfl, .inl ⟨rfl, _, SqL.of upd_same⟩, _, rfl, _, rfl, _, rfl, c0, _, _, _, rfl, rfl, SqL.of upd_same, az, B, _, rfl, dg, ?_⟩
            refine ⟨c0, _, _, rfl, rfl, upd_same, ?_, rfl, ?_⟩
            · rw [natV_len, List.length_map, List.length_take]
              exact small1000 (by omega)
            · rw [upd_upd, List.take_add_one (i := n + 1), hy, List.map_append]
              unfold natV
              rw [List.map_append]
              rfl
          · rintro σ H7 ⟨rfl, rfl⟩
            obtain ⟨z, hz, az, zl⟩ := at_ (r.length - 1) (by omega)
            have nz : nextP kss z = none := by
              cases e : nextP kss z with
              | none => rfl
              | some y => exact absurd ((next_nx fine zl).mp e) (C.ends z y hz)
            have dg : DGet (upd H6 c0 (.lst (natV ((r.take (r.length - 1 + 1)).map w)))) B (.int ((w z : Nat) : Int)) none := .inl ⟨_, Sum.inl ((w z : Nat) : Int), .inr ⟨od, by rw [upd_ne cB.symm]; exact s6 _ _ hB5⟩, rfl, by rw [dP_nextW U fine zl, nz]; rfl⟩
            refine ⟨_, rfl, _, rfl, c0, _, _, _, rfl, rfl, SqL.of upd_same, az, _, rfl, B, _, rfl, dg, _, rfl, ?_⟩
            refine iteF ?_
            rw [show r.take (r.length - 1 + 1) = r by rw [List.take_of_length_le (by omega)]]
            have s56 : Same H5 (upd H6 c0 (.lst (natV (r.map w)))) := fun b o e => by
              rw [upd_ne (ne_of_none e hc0)]
              exact s6 _ _ e
            have h7 : upd H6 c0 (.lst (natV (r.map w))) c0 = some (.lst (natV (r.map w))) := upd_same
            generalize upd H6 c0 (.lst (natV (r.map w))) = H7 at s56 h7
            have R7 := RA.same s56
            have hl : rows.length ≤ 40 := by
              have h1 := List.length_filter_le (fun p => !decide (p ∈ ledN kss)) ((persN kss).take i)
              rw [List.length_take] at h1
              rw [ln]
              unfold headN
              omega
            have nc : H4 c0 = none := by
              cases e : H4 c0 with
              | none => rfl
              | some u =>
                have := bt c0 u (by rw [upd_ne cB]; exact e) cR
                rw [hc0] at this
                cases this
            refine ⟨_, rfl, .inl ⟨rfl, _, SqL.of R7.top⟩, _, rfl, R0, _, _, rfl, rfl, R7.top, ?_, ?_⟩
            · rw [List.length_map, ← R7.len, List.length_map]
              exact small1000 (by omega)
            · have rl : rows.length = rs.length := by have := R7.len; rwa [List.length_map] at this
              refine ⟨_, _, rs ++ [c0], rows ++ [r], rfl, fun b o e nb => ?_, ⟨?_, ?_, fun j a l ha hl => ?_, ?_⟩, fun a ha => ?_, fun z => ?_, ?_, fun j h l hh hl => ?_⟩
              · rw [upd_ne nb]
                exact s56 _ _ (bt b o e nb)
              · rw [upd_same, List.map_append]
                rfl
              · rw [List.length_map, List.length_append, List.length_append, rl]
                rfl
              · have aR : a ≠ R0 := by
                  rcases List.mem_append.mp (List.mem_of_getElem? ha) with z | z
                  · exact fun y => RR (y ▸ z)
                  · rw [List.mem_singleton] at z
                    rw [z]
                    exact cR
                rw [upd_ne aR]
                by_cases j1 : j < rs.length
                · rw [List.getElem?_append_left j1] at ha
                  rw [List.map_append, List.getElem?_append_left (by rw [List.length_map]; omega)] at hl
                  exact R7.row j a l ha hl
                · obtain rfl : j = rs.length := by
                    have := (List.getElem?_eq_some_iff.mp ha).1
                    rw [List.length_append, List.length_singleton] at this
                    omega
                  rw [List.getElem?_concat_length] at ha
                  rw [List.getElem?_map, ← rl, List.getElem?_concat_length] at hl
                  cases ha
                  cases hl
                  exact h7
              · rw [List.nodup_append]
                refine ⟨R7.nd, List.nodup_cons.mpr ⟨by simp, .nil⟩, fun a ha b hb e => ?_⟩
                rw [List.mem_singleton] at hb
                subst hb
                subst e
                obtain ⟨j, hj⟩ := List.mem_iff_getElem?.mp ha
                obtain ⟨l, hl⟩ : ∃ l, rows[j]? = some l := ⟨_, List.getElem?_eq_getElem (by have := (List.getElem?_eq_some_iff.mp hj).1; have := RA.len; rw [List.length_map] at this; omega)⟩
                have := RA.row j _ (l.map w) hj (by rw [List.getElem?_map, hl]; rfl)
                rw [hc0] at this
                cases this
              · rcases List.mem_append.mp ha with z | z
                · exact nR a z
                · rw [List.mem_singleton] at z
                  rw [z]
                  exact nc
              · rcases List.mem_append.mp z with y | y
                · exact RR y
                · rw [List.mem_singleton] at y
                  exact cR y.symm
              · rw [hn, List.length_append, List.length_append, ln]
                rfl
              · rw [hn] at hh
                by_cases j1 : j < rows.length
                · rw [List.getElem?_append_left (by omega)] at hh
                  rw [List.getElem?_append_left j1] at hl
                  exact ch j h l hh hl
                · obtain rfl : j = rows.length := by
                    have := (List.getElem?_eq_some_iff.mp hl).1
                    rw [List.length_append, List.length_singleton] at this
                    omega
                  rw [ln, List.getElem?_concat_length] at hh
                  rw [List.getElem?_concat_length] at hl
                  cases hh
                  cases hl
                  exact C
      · rintro σ H5 ⟨e3, e5, rs, rows, rfl, bt, RA, nR, RR, ln, ch⟩
        rw [len] at ln ch
        refine ⟨bt _ _ upd_same RB.symm, ?_⟩
        have R := rows_of_heads fine (heads_nodup _) (fun h => heads_all fine) ln ch
        have b6 : But R0 H4 (upd H5 B (.dK (dP (nextsW w kss kss.length)))) := fun b o e nb => by
          by_cases c : b = B
          · rw [c, upd_same, ← hB4, ← e, c]
          · rw [upd_ne c]
            exact bt b o (by rw [upd_ne c]; exact e) nb
        have R6 : RowsAt (upd H5 B (.dK (dP (nextsW w kss kss.length)))) R0 rs (rows.map (List.map w)) := ⟨by rw [upd_ne RB]; exact RA.top, RA.len, fun i r l a b => by
          rw [upd_ne (fun z => by
            have := nR r (List.mem_of_getElem? a)
            rw [z, hB4] at this
            cases this)]
          exact RA.row i r l a b, RA.nd⟩
        generalize upd H5 B (.dK (dP (nextsW w kss kss.length))) = H6 at b6 R6
        have s6 : Same H H6 := fun b o e => b6 b o (s34 b o e) (ne_of_none e nR0)
        refine ⟨_, rfl, _, rfl, R0, rs, (rows.map (List.map w)).map nums, (rows.map (List.map w)).map fun l => ((minL l : Nat) : Int), rfl, SqL.of R6.top, by rw [List.length_map]; exact R6.len, by rw [List.length_map]; exact R6.len, fun i r ns hr hns => ?_, fun p ps pm so hp => ?_⟩
        · rw [List.getElem?_map] at hns
          cases e : (rows.map (List.map w))[i]? with
          | none => rw [e] at hns; cases hns
          | some l =>
            rw [e] at hns
            cases hns
            have big : 1 < l.length ∨ 0 < l.length := by
              obtain ⟨l0, h0, rfl⟩ := List.mem_map.mp (List.mem_of_getElem? e)
              have := R.big l0 h0
              rw [List.length_map]
              omega
            obtain ⟨m1, m2⟩ := minL_ok (l := l) (fun z => by rw [z] at big; simp at big)
            refine ⟨SqL.of (by rw [← natV_nums]; exact R6.row i r l hr e), ((minL l : Nat) : Int), by rw [List.getElem?_map, e]; rfl, nums_mem.mpr ⟨_, m1, rfl⟩, fun y hy => ?_⟩
            obtain ⟨x, hx, rfl⟩ := nums_mem.mp hy
            have := m2 x hx
            omega
        · obtain ⟨rs', rows', A, Rn, M, pr⟩ := sorted_rowsW U R6 R hp pm so
          refine q p rs' rows' _ (s6.trans (same_new hp)) (s6.free hp) (fun r hr => s34.free (nR r (pr.mem_iff.mp hr))) (fun z => ?_) A Rn M
          obtain ⟨j, hj⟩ := List.mem_iff_getElem?.mp (pr.mem_iff.mp z)
          obtain ⟨l, hl⟩ : ∃ l, rows[j]? = some l := ⟨_, List.getElem?_eq_getElem (by have := (List.getElem?_eq_some_iff.mp hj).1; have := R6.len; rw [List.length_map] at this; omega)⟩
          have := R6.row j _ (l.map w) hj (by rw [List.getElem?_map, hl]; rfl)
          rw [hp] at this
          cases this
end
end K58

/-! One class, by names. -/
namespace GL
open PySem PySem.Spec PyProof.Rows
open L2 hiding spCell
section
variable {w : Nat → Nat} {n i j p : Nat} {kss kts : List (List Int)} {rows rows' : List (List Nat)} {r : List Nat}
theorem sureF_step (U : Up w kss.length) (hr : rows[i]? = some r) (low : ∀ x ∈ r, x < kss.length) (hp : p ∈ r) {z : Nat} (h : ∀ x, z.testBit x = ((sureF w kss (rows.take i) p).testBit x && !(bitsN (r.map w)).testBit x)) : z = sureF w kss (rows.take (i + 1)) p := by
  refine lift_less U low h fun x => ?_
  obtain ⟨y, hy⟩ : ∃ y : Nat, ∀ x, y.testBit x = ((sureN kss (rows.take i) p).testBit x && !(bitsN r).testBit x) := by
    refine ⟨bitsBy kss.length fun x => (sureN kss (rows.take i) p).testBit x && !(bitsN r).testBit x, fun x => ?_⟩
    rw [bitsBy_bit]
    by_cases c : x < kss.length
    · rw [decide_eq_true c, Bool.true_and]
    · rw [decide_eq_false c, Bool.false_and, sureN_out (by omega), Bool.false_and]
  rw [← sure_step hr hp hy]
  exact hy x
theorem sureF_out (hr : rows[i]? = some r) (hp : p ∉ r) : sureF w kss (rows.take (i + 1)) p = sureF w kss (rows.take i) p := by
  unfold sureF
  rw [sure_out hr hp]
theorem srt_getF (U : Up w kss.length) {ns : List Int} (low : ∀ x ∈ r, x < kss.length) (nd : r.Nodup) (pm : ns.Perm (nums (r.map w))) (so : ns.Pairwise (· ≤ ·)) : ns = nums ((srtN kss.length r).map w) := by
  obtain ⟨s1, s2⟩ := srt_of low
  have up : ((srtN kss.length r).map w).Pairwise (· < ·) := by
    rw [List.pairwise_map]
    exact s1.imp_of_mem fun {a b} ha hb h => U.lt a b h (low b ((s2 b).mp hb))
  have upN : (nums ((srtN kss.length r).map w)).Pairwise (· ≤ ·) := by
    unfold nums
    rw [List.pairwise_map]
    exact up.imp fun h => by omega
  refine List.Perm.eq_of_pairwise (fun a b _ _ h1 h2 => Int.le_antisymm h1 h2) so upN (pm.trans ?_)
  unfold nums
  refine List.Perm.map _ (List.Perm.map _ ?_)
  refine (List.perm_ext_iff_of_nodup nd (s1.imp fun h => Nat.ne_of_lt h)).mpr fun x => (s2 x).symm
def tabF (w : Nat → Nat) (kss : List (List Int)) (rows : List (List Nat)) : List (List Int) := rows.map fun r => nums ((srtN kss.length r).map w)
theorem map_injF {α β : Type} {f : α → β} {P : α → Prop} (inj : ∀ a b, P a → P b → f a = f b → a = b) : ∀ {l m : List α}, (∀ a ∈ l, P a) → (∀ a ∈ m, P a) → l.map f = m.map f → l = m
  | [], [], _, _, _ => rfl
  | [], _ :: _, _, _, h => by cases h
  | _ :: _, [], _, _, h => by cases h
  | a :: l, b :: m, hl, hm, h => by
    rw [List.map_cons, List.map_cons] at h
    obtain ⟨h1, h2⟩ := List.cons.inj h
    rw [inj a b (hl a (List.mem_cons_self ..)) (hm b (List.mem_cons_self ..)) h1, map_injF inj (fun x hx => hl x (List.mem_cons_of_mem _ hx)) (fun x hx => hm x (List.mem_cons_of_mem _ hx)) h2]
theorem tabF_tabS (U : Up w kss.length) (l : kts.length = kss.length) : tabF w kss rows = tabF w kts rows' ↔ tabS kss rows = tabS kts rows' := by
  have low : ∀ (n : Nat) (r : List Nat), ∀ x ∈ srtN n r, x < n := fun n r x hx => List.mem_range.mp (List.mem_filter.mp hx).1
  have e1 : ∀ (k : List (List Int)) (rs : List (List Nat)), tabF w k rs = (rs.map (srtN k.length)).map fun m => nums (m.map w) := fun k rs => by
    unfold tabF
    rw [List.map_map]
    rfl
  have e2 : ∀ (k : List (List Int)) (rs : List (List Nat)), tabS k rs = (rs.map (srtN k.length)).map nums := fun k rs => by
    unfold tabS
    rw [List.map_map]
    rfl
  have numsInj : ∀ a b : List Nat, nums a = nums b → a = b := fun a b h => map_injF (f := fun j : Nat => (j : Int)) (P := fun _ => True) (fun x y _ _ e => by omega) (fun _ _ => trivial) (fun _ _ => trivial) h
  rw [e1, e1, e2, e2, l]
  constructor
  · intro h
    rw [map_injF (f := fun m => nums (m.map w)) (P := fun m : List Nat => ∀ x ∈ m, x < kss.length) (fun a b ha hb e => map_injF (P := fun x => x < kss.length) (fun x y hx hy e => U.inj hx hy e) ha hb (numsInj _ _ e)) (fun m hm => by
      obtain ⟨r, _, rfl⟩ := List.mem_map.mp hm
      exact low _ _) (fun m hm => by
      obtain ⟨r, _, rfl⟩ := List.mem_map.mp hm
      exact low _ _) h]
  · intro h
    rw [map_injF (f := nums) (P := fun _ => True) (fun a b _ _ e => numsInj a b e) (fun _ _ => trivial) (fun _ _ => trivial) h]
theorem one_classF (U : Up w kss.length) (f : Fine 2 kss) (g : Fine 2 kts) (l : kts.length = kss.length) (R : RowsOf kss rows) (R' : RowsOf kts rows') (M : MinUp rows) (M' : MinUp rows') (h : tabF w kss rows = tabF w kts rows') : (∀ p < kss.length, sureF w kss rows p = sureF w kts rows' p) ↔ JK kss kts := by
  rw [← one_class f g l R R' M M' ((tabF_tabS U l).mp h)]
  exact ⟨fun e p hp => (sureF_same U l).mp (e p hp), fun e p hp => (sureF_same U l).mpr (e p hp)⟩
theorem not_oneF (U : Up w kss.length) (f : Fine 2 kss) (g : Fine 2 kts) (l : kts.length = kss.length) (R : RowsOf kss rows) (R' : RowsOf kts rows') (M : MinUp rows) (M' : MinUp rows') (h : tabF w kss rows ≠ tabF w kts rows') : ¬ JK kss kts :=
  not_one f g l R R' M M' fun e => h ((tabF_tabS U l).mpr e)
end
end GL

namespace K58
open PySem PySem.Spec PyProof.Rows
open L2 hiding spCell
open GL
section
variable {P : Program} {w : World} {K : PySem.W.Frag} {mg : Str → Option Value} {base : Heap}
abbrev sSureF : Stmt := topS 20
abbrev nSureF : List Str := ["beaten", "rows", "sure", "row", "others", "person"]
theorem scSureF : FnScope nSureF ["beaten", "rows"] (defScope sSureF) := ⟨rfl, rfl, rfl, by decide +kernel, rfl, by decide +kernel, by decide +kernel⟩
theorem ok_sureF {f : Addr} {fd : FuncData} (F : Fun K "sure_results" "sure_results" sSureF f fd) (T : Bi mg) (TD : Bd mg) (Ubitsof : Use P w K mg base "bits_of" ["people"] spBits 1) : FnOk P w K mg base CX0 2 f fd ["beaten", "rows"] spSureF := by
  refine F.ok scSureF (fun vs H Q E h => ?_) (fun cdv A outer s H vs Q E hr h => ?_)
  · obtain ⟨d, p, rs, kss, rows, w, rfl, _⟩ := h
    rfl
  · obtain ⟨d, p, rs, kss, rows, w, rfl, hd, fine, n40, U, RA, R, q⟩ := h
    refine ⟨_, (pss_cons (ps_set (i := 2) scSureF.nd rfl (Or.inl rfl) (pe_callTy call_dictD (by rfl) TD.dict (by decide +kernel) (pa_cons (pv 0) pa_nil)))
      (pss_cons (ps_for PassesOwn.never rfl (pi_list (pv 1)) (pg_name (i := 3) scSureF.nd rfl (Or.inl rfl))
        (pss_cons (ps_set (i := 4) scSureF.nd rfl (Or.inl rfl) (pe_un un_inv (pe_use Ubitsof hr (by rfl) (pa_cons (pv 3) pa_nil))))
        (pss_one (ps_for PassesOwn.never rfl (pi_list (pv 3)) (pg_name (i := 5) scSureF.nd rfl (Or.inl rfl))
          (pss_one (ps_daug (hu_of hr) (pv 2) (pv 5) (pv 4) iopN_less (fun _ _ _ => rfl)))))))
      (pss_one (ps_ret (pv 2))))), ?_⟩
    have sz : ∀ f, (dG kss.length w f).length < sizeLine := fun f => by
      rw [dG_len]
      exact small1000 (by omega)
    refine ⟨_, rfl, d, _, rfl, .inl hd, fun D hD => ?_⟩
    have Dd : D ≠ d := fun z => by rw [z, hd] at hD; cases hD
    have up : ∀ {u b : Addr} {o : HO} {x : HO}, H b = some o → upd H D x b = some o := fun e => by rw [upd_ne (ne_of_none e hD)]; exact e
    rw [dG_congr (g := w) (h' := fun x => sureF w kss (rows.take 0) x) fun x hx => (sureF_nil hx).symm]
    refine ⟨_, rfl, p, rfl, ⟨_, SqL.of (up (u := D) RA.top)⟩, ?_⟩
    refine for_list (K := K) (a := p) (xs := rs.map V.ref) (fun i σ H' => H' = upd H D (.dK (dG kss.length w fun x => sureF w kss (rows.take i) x)) ∧ ∃ e3 e4 e5 : Option V, σ = [some (.ref d), some (.ref p), some (.ref D), e3, e4, e5]) ⟨rfl, none, none, none, rfl⟩ (fun i σ H' _ z => by rw [z.1]; exact SqL.of (up (u := D) RA.top)) ?_ ?_
    · rintro i x σ H' hx ⟨rfl, e3, e4, e5, rfl⟩
      rw [List.getElem?_map] at hx
      cases er : rs[i]? with
      | none => rw [er] at hx; cases hx
      | some a =>
        rw [er] at hx
        cases hx
        obtain ⟨r, hr⟩ : ∃ r, rows[i]? = some r := ⟨_, List.getElem?_eq_getElem (by have := (List.getElem?_eq_some_iff.mp er).1; have := RA.len; rw [List.length_map] at this; omega)⟩
        have ha := RA.row i a (r.map w) er (by rw [List.getElem?_map, hr]; rfl)
        have hm := List.mem_of_getElem? hr
        have low := R.low r hm
        have nd := row_nodup R.nd hm
        refine ⟨_, rfl, a, r.map w, rfl, up (u := D) ha, fun x hx => by obtain ⟨y, hy, rfl⟩ := List.mem_map.mp hx; have := U.low y (low y hy); omega, _, rfl, ?_⟩
        refine gName_by ?_
        refine ⟨_, rfl, a, rfl, ⟨_, SqL.of (up (u := D) ha)⟩, ?_⟩
        refine for_list (K := K) (a := a) (xs := natV (r.map w)) (fun j σ H' => H' = upd H D (.dK (dG kss.length w fun x => if x ∈ r.take j then sureF w kss (rows.take (i + 1)) x else sureF w kss (rows.take i) x)) ∧ ∃ e5 : Option V, σ = [some (.ref d), some (.ref p), some (.ref D), some (.ref a), some (.int (Builtin.bitNot ((bitsN (r.map w) : Nat) : Int))), e5]) ⟨?_, _, rfl⟩ (fun i σ H' _ z => by rw [z.1]; exact SqL.of (up (u := D) ha)) ?_ ?_
        · refine congrArg (fun f => upd H D (.dK (dG kss.length w f))) (funext fun x => ?_)
          rw [if_neg (by simp)]
        · rintro j x σ H' hx ⟨rfl, e5, rfl⟩
          obtain ⟨y0, hy0, rfl⟩ := natV_get hx
          rw [List.getElem?_map] at hy0
          obtain ⟨y, hy, rfl⟩ := Option.map_eq_some_iff.mp hy0
          have ym := List.mem_of_getElem? hy
          have yl := low y ym
          have ny : y ∉ r.take j := fun z => by
            obtain ⟨k, hk, e⟩ := List.mem_take_iff_getElem.mp z
            have := (List.getElem?_inj (by omega) nd).mp ((List.getElem?_eq_some_iff.mpr ⟨by omega, e⟩ : r[k]? = some y).trans hy.symm)
            omega
          refine ⟨_, rfl, _, rfl, D, _, rfl, getU U upd_same yl, _, rfl, _, bitsN (r.map w), rfl, rfl, fun z hz => ?_⟩
          rw [if_neg ny] at hz
          rw [sureF_step U hr low ym hz]
          refine ⟨_, putU y upd_same (by omega), ⟨?_, _, rfl⟩⟩
          rw [upd_upd, dG_put U yl]
          refine congrArg (fun f => upd H D (.dK (dG kss.length w f))) (funext fun x => ?_)
          rw [show r.take (j + 1) = r.take j ++ [y] by rw [List.take_add_one, hy]; rfl]
          by_cases c : x = y
          · subst c
            rw [if_pos rfl, if_pos (List.mem_append_right _ (List.mem_cons_self ..))]
          · rw [if_neg c]
            by_cases c2 : x ∈ r.take j
            · rw [if_pos c2, if_pos (List.mem_append_left _ c2)]
            · rw [if_neg c2, if_neg (fun z => by
                rcases List.mem_append.mp z with z | z
                · exact c2 z
                · exact c (List.mem_singleton.mp z))]
        · rintro σ H' ⟨rfl, e5, rfl⟩
          refine ⟨?_, _, _, _, rfl⟩
          rw [natV_len, List.length_map, List.take_length]
          refine congrArg (fun f => upd H D (.dK (dG kss.length w f))) (funext fun x => ?_)
          by_cases c : x ∈ r
          · rw [if_pos c]
          · rw [if_neg c, sureF_out hr c]
    · rintro σ H' ⟨rfl, e3, e4, e5, rfl⟩
      rw [List.length_map, ← RA.len, List.length_map, List.take_length]
      exact ⟨_, rfl, q D _ (same_new hD) hD upd_same⟩
abbrev sOneF : Stmt := topS 21
abbrev nOneF : List Str := ["beaten", "others", "rows", "other_rows", "row"]
theorem scOneF : FnScope nOneF ["beaten", "others"] (defScope sOneF) := ⟨rfl, rfl, rfl, by decide +kernel, rfl, by decide +kernel, by decide +kernel⟩
theorem ok_oneF {f : Addr} {fd : FuncData} (F : Fun K "are_of_one_class" "are_of_one_class" sOneF f fd) (T : Bi mg) (Urowsin : Use P w K mg base "rows_in" ["beaten"] spRowsF 2) (Usureresults : Use P w K mg base "sure_results" ["beaten", "rows"] spSureF 2) : FnOk P w K mg base CX0 3 f fd ["beaten", "others"] spOneF := by
  refine F.ok scOneF (fun vs H Q E h => ?_) (fun cdv A outer s H vs Q E hr h => ?_)
  · obtain ⟨d, e, kss, kts, w, rfl, _⟩ := h
    rfl
  · obtain ⟨d, e, kss, kts, w, rfl, hd, he, fine, fine2, l, n40, U, q⟩ := h
    refine ⟨_, (pss_cons (ps_par (i := 2) (j := 3) rfl scOneF.nd rfl rfl (by decide) rfl rfl (pa_cons (pe_use Urowsin hr (by rfl) (pa_cons (pv 0) pa_nil)) (pa_cons (pe_use Urowsin hr (by rfl) (pa_cons (pv 1) pa_nil)) pa_nil)) (by rfl))
      (pss_cons (ps_if (pt_cmpR (op_neD hr.units) (pe_lc (own := [("row", 4)]) (g := (gName 4)) (tt := tYes) (te := (tCB (rSortedI K) (tCons (tVar 4) tNil))) rfl scOneF.nd (pi_list (pv 2))
            (blkOk_by (N := nOneF) (sc := (defScope sOneF)) (by decide +kernel)) (fun _ _ _ _ _ => (pg_name (i := 4) scOneF.nd rfl (Or.inl rfl))) (fun _ _ _ _ _ => by exact pts_nil)
            (fun _ _ _ _ _ => by exact (pe_callB cr_sortedI (by rfl) T.sorted (by decide +kernel) (pa_cons (pv 4) pa_nil)))) (pe_lc (own := [("row", 4)]) (g := (gName 4)) (tt := tYes) (te := (tCB (rSortedI K) (tCons (tVar 4) tNil))) rfl scOneF.nd (pi_list (pv 3))
            (blkOk_by (N := nOneF) (sc := (defScope sOneF)) (by decide +kernel)) (fun _ _ _ _ _ => (pg_name (i := 4) scOneF.nd rfl (Or.inl rfl))) (fun _ _ _ _ _ => by exact pts_nil)
            (fun _ _ _ _ _ => by exact (pe_callB cr_sortedI (by rfl) T.sorted (by decide +kernel) (pa_cons (pv 4) pa_nil)))) (nomark _))
        (pss_one (ps_ret pe_bl)) pss_nil)
      (pss_one (ps_ret (pe_cmpR (op_eqDN (Nat.lt_of_succ_lt (hu_of hr))) (pe_use Usureresults hr (by rfl) (pa_cons (pv 0) (pa_cons (pv 2) pa_nil))) (pe_use Usureresults hr (by rfl) (pa_cons (pv 1) (pa_cons (pv 3) pa_nil))) (nomark _)))))), ?_⟩
    refine ⟨_, rfl, d, kss, w, rfl, hd, fine, n40, U, fun p1 rs1 rows1 H1 s1 np1 nr1 pr1 A1 R1 M1 => ?_⟩
    have U2 : Up w kts.length := by rw [l]; exact U
    refine ⟨_, rfl, e, kts, w, rfl, s1 _ _ he, fine2, by omega, U2, fun p2 rs2 rows2 H2 s2 np2 nr2 pr2 A2 R2 M2 => ?_⟩
    have A1' := A1.same s2
    refine ⟨_, _, rfl, ?_⟩
    refine ⟨_, rfl, p1, rfl, ⟨_, SqL.of A1'.top⟩, fun D1 hD1 => ?_⟩
    have len1 : (rs1.map V.ref).length = rows1.length := by have := A1.len; rw [List.length_map] at this; rw [List.length_map, this]
    have len2 : (rs2.map V.ref).length = rows2.length := by have := A2.len; rw [List.length_map] at this; rw [List.length_map, this]
    have l1 := rows_len R1
    have l2 := rows_len R2
    refine lc_objs (walk_list (K := K) (a := p1) (xs := rs1.map V.ref)) (fun i => .lst (((tabF w kss rows1).getD i []).map V.int)) hD1 (by rw [len1, sizeLine_eq]; omega) (fun H' s' => SqL.of (s' _ _ A1'.top)) ?_ ?_
    · rintro i x H3 H4 N hi s3 ⟨rfl, ex⟩ hN
      obtain ⟨a, r0, er, rfl, ha, hr0⟩ := A1'.get ex
      rw [List.getElem?_map] at hr0
      obtain ⟨r, hr, rfl⟩ := Option.map_eq_some_iff.mp hr0
      have hm := List.mem_of_getElem? hr
      refine ⟨rfl, _, rfl, a, nums (r.map w), rfl, SqL.of (by rw [← natV_nums]; exact s3 _ _ ha), fun ns' p pm so hp => ?_⟩
      rw [srt_getF U (R1.low r hm) (row_nodup R1.nd hm) pm so]
      refine hN _ p (same_new hp) hp ?_
      rw [upd_same, List.getD_eq_getElem?_getD]
      unfold tabF
      rw [List.getElem?_map, hr]
      rfl
    · intro H3 ps1 s3 ob1
      rw [len1] at ob1
      have t1 := ob1.tab (by unfold tabF; rw [List.length_map])
      have A2' := A2.same s3
      refine ⟨_, rfl, p2, rfl, ⟨_, SqL.of A2'.top⟩, fun D2 hD2 => ?_⟩
      refine lc_objs (walk_list (K := K) (a := p2) (xs := rs2.map V.ref)) (fun i => .lst (((tabF w kts rows2).getD i []).map V.int)) hD2 (by rw [len2, sizeLine_eq]; omega) (fun H' s' => SqL.of (s' _ _ A2'.top)) ?_ ?_
      · rintro i x H5 H4 N hi s5 ⟨rfl, ex⟩ hN
        obtain ⟨a, r0, er, rfl, ha, hr0⟩ := A2'.get ex
        rw [List.getElem?_map] at hr0
        obtain ⟨r, hr, rfl⟩ := Option.map_eq_some_iff.mp hr0
        have hm := List.mem_of_getElem? hr
        refine ⟨rfl, _, rfl, a, nums (r.map w), rfl, SqL.of (by rw [← natV_nums]; exact s5 _ _ ha), fun ns' p pm so hp => ?_⟩
        rw [srt_getF U2 (R2.low r hm) (row_nodup R2.nd hm) pm so]
        refine hN _ p (same_new hp) hp ?_
        rw [upd_same, List.getD_eq_getElem?_getD]
        unfold tabF
        rw [List.getElem?_map, hr]
        rfl
      · intro H4 ps2 s4 ob2
        rw [len2] at ob2
        have t2 := ob2.tab (by unfold tabF; rw [List.length_map])
        have s14 := s1.trans (s2.trans (s3.trans s4))
        refine ⟨_, _, (t1.same s4).dp, t2.dp, shaped_tab _, shaped_tab _, ?_⟩
        rw [eqv_tab]
        refine ⟨_, rfl, ?_⟩
        by_cases c : tabF w kss rows1 = tabF w kts rows2
        · rw [decide_eq_true c]
          refine iteF ?_
          refine ⟨_, rfl, _, rfl, d, p1, rs1, kss, rows1, w, rfl, s14 _ _ hd, fine, n40, U, A1'.same (s3.trans s4), R1, fun e1 H5 s5 n5 h5 => ?_⟩
          refine ⟨_, rfl, _, rfl, e, p2, rs2, kts, rows2, w, rfl, s5 _ _ (s14 _ _ he), fine2, by omega, U2, A2.same (s3.trans (s4.trans s5)), R2, fun e2 H6 s6 n6 h6 => ?_⟩
          refine ⟨e1, e2, _, _, rfl, rfl, s6 _ _ h5, h6, dG_flat _, dG_flat _, ?_⟩
          refine q _ H6 (s14.trans (s5.trans s6)) ?_
          rw [l, same_dG U]
          exact one_classF U fine fine2 l R1 R2 M1 M2 c
        · rw [decide_eq_false c]
          refine iteT ?_
          exact q false H4 s14 ⟨(fun z => nomatch z), fun z => absurd z (not_oneF U fine fine2 l R1 R2 M1 M2 c)⟩
end
end K58

/-! A dict with keys of tuples of tuples, made empty, asked and stored into. -/
namespace GL
open PySem PySem.Spec PyProof.Rows
open L2 hiding spCell
def tDNewN (P : Program) (w : World) : TE := fun _ H Q => ∀ p, H p = none → Q (.ref p) (upd H p (ndO P w p []))
theorem pe_dnewN {X : Cx} {pos : Pos} : PE X (.Dict [] [] pos) (tDNewN X.prog X.w) := ⟨fun pins s σ H Q I h =>
  wpAny_Dict_empty ⟨.ref s.heap.objs.size, _, I.laid (a := s.heap.objs.size) (o := ndO X.prog X.w s.heap.objs.size []) (t' := s.toks) (fun _ _ q => Heap.get?_push_of_some _ q) (Nat.le_refl _) (nd_empty s.heap I.big), rfl, h _ (I.hok.fresh (Nat.le_refl _))⟩⟩
theorem valN_none {kvs : List NE} {k : NestedKey} : valN kvs k = none ↔ k ∉ kvs.map (·.1) := by
  unfold valN
  rw [Option.map_eq_none_iff, List.find?_eq_none]
  constructor
  · intro h m
    obtain ⟨p, hp, e⟩ := List.mem_map.mp m
    exact h p hp (decide_eq_true e)
  · intro h p hp e
    exact h (List.mem_map.mpr ⟨p, hp, of_decide_eq_true e⟩)
theorem valN_app {kvs : List NE} {k k' : NestedKey} {b : Addr} {v : V} : valN (kvs ++ [(k, b, v)]) k' = (valN kvs k').or (if k = k' then some v else none) := by
  unfold valN
  rw [List.find?_append]
  cases e : kvs.find? (fun p => decide (p.1 = k')) with
  | some p => rfl
  | none =>
    rw [Option.none_or, Option.map_none, Option.none_or, List.find?_cons]
    by_cases c : k = k'
    · rw [decide_eq_true (show (k, b, v).1 = k' from c), if_pos c]
      rfl
    · rw [decide_eq_false (show ¬ (k, b, v).1 = k' from c), if_neg c]
      rfl
section
variable {X : Cx} {i o value : Expr} {pos pos' : Pos} {ty td tv : TE}
/-- k not in d -/
def tDNotInN (P : Program) (w : World) (ty td : TE) : TE := fun σ H Q => ty σ H fun y H1 => td σ H1 fun x H2 => ∃ (a b : Addr) (kvs : List NE) (k : NestedKey), x = .ref a ∧ y = .ref b ∧ H2 a = some (ndO P w a kvs) ∧ keysN H2 kvs ∧ NK H2 (.ref b) k ∧ k.depth ≤ 8 ∧ Q (.bl (!(valN kvs k).isSome)) H2
theorem relN.at {kvs : List NE} {xs : List (NestedKey × Addr × Value)} (h : relN kvs xs) (k : NestedKey) : (valN kvs k).isSome = (atKey xs k).isSome := by
  cases e : valN kvs k with
  | some v =>
    obtain ⟨p, hp, _⟩ := h.val e
    rw [hp]
    rfl
  | none =>
    rw [h.none (valN_none.mp e)]
    rfl
theorem pc_dnotinN (hu : X.A.in1.units + 8 < cLine) (hi : PE X i ty) (ho : PE X o td) : PC X .NotIn i o (tDNotInN X.prog X.w ty td) := by
  refine ⟨fun pins s σ H Q I h => ?_⟩
  refine thn (hi.run pins s σ H _ I h) fun iv s1 ⟨y, H1, I1, ry, q1⟩ => thn (ho.run pins s1 σ H1 _ I1 q1) fun u s2 ⟨x, H2, I2, rx, a, b, kvs, k, ex, ey, hD, kn, hk, d8, q2⟩ => ?_
  subst ex ey
  obtain rfl : u = Value.ref a := rx
  obtain rfl : iv = Value.ref b := ry
  obtain ⟨z, hs, nd, xs, rel, dd⟩ := nd_of I2.hok hD kn
  refine wpAny_notIn_heap (knd := nestedKind X.prog X.w) hu ⟨NK.is I2.hok _ _ _ hk rfl, d8⟩ hs dd ?_
  rw [← rel.at k]
  exact ⟨.bl _, H2, I2.tok _, rfl, q2⟩
/-- d[k] = v, of a key that isn't there -/
def sDPutN (P : Program) (w : World) (td ty tv : TE) : TS := fun D σ H => tv σ H fun v H1 => td σ H1 fun x H2 => ty σ H2 fun y H3 => ∃ (a b : Addr) (kvs : List NE) (k : NestedKey), x = .ref a ∧ y = .ref b ∧ H3 a = some (ndO P w a kvs) ∧ keysN H3 kvs ∧ NK H3 (.ref b) k ∧ k.depth ≤ 8 ∧ k ∉ kvs.map (·.1) ∧ kvs.length < sizeLine ∧ D.nx σ (upd H3 a (ndO P w a (kvs ++ [(k, b, v)])))
theorem nd_setItem {pins : List (Addr × Obj)} {σ : L2.St} {H : Hp} {s : Shared} {D b : Addr} {kvs : List NE} {k : NestedKey} {v : V} {u : Value} {E : Value → Shared → Prop} {Q : Unit → Shared → Prop} (hu : X.A.in1.units + 8 < cLine) (I : Inv X pins σ H s) (hD : H D = some (ndO X.prog X.w D kvs)) (kn : keysN H kvs) (hk : NK H (.ref b) k) (d8 : k.depth ≤ 8) (new : k ∉ kvs.map (·.1)) (hz : kvs.length < sizeLine) (rv : RelV v u)
    (h : ∀ s', Inv X pins σ (upd H D (ndO X.prog X.w D (kvs ++ [(k, b, v)]))) s' → Q () s') : wpAny (model X.prog X.w) X.A (setItem (.ref D) (.ref b) u) Q E s := by
  obtain ⟨z, hs, nd, xs, rel, dd⟩ := nd_of I.hok hD kn
  refine wpAny_setItem_heap (hsz := by rw [rel.len]; exact z) (knd := nestedKind X.prog X.w) hu ⟨NK.is I.hok _ _ _ hk rfl, d8⟩ dd fun h' dd' hs' => h _ ?_
  rw [storedH_new (rel.none new)] at dd'
  have he : ∃ q, h'.get? D = some q := let ⟨q, _, _, hq, _⟩ := dd'; ⟨q, hq⟩
  refine d_write I (by rw [hD]; exact True.intro) hs' he (nd_new (by rw [List.length_append]; exact hz) hs ?_ (rel.snoc rv) dd')
  rw [List.map_append, List.nodup_append]
  refine ⟨nd, by simp, fun x hx y hy => ?_⟩
  rintro rfl
  rw [List.map_singleton, List.mem_singleton] at hy
  rw [hy] at hx
  exact new hx
theorem ps_dputN (hu : X.A.in1.units + 8 < cLine) (ho : PE X o td) (hi : PE X i ty) (hv : PE X value tv) (hs : swapsWith value (some (.Subscript o i pos')) pos.line X.env = pure false) :
    PS X (.Assign [.Subscript o i pos'] value pos) (sDPutN X.prog X.w td ty tv) := by
  refine ⟨fun pins s σ H D I h => ?_⟩
  refine wpAny_Assign_Subscript (thn (hv.run pins s σ H _ I h) fun r s1 ⟨v, H1, I1, rv, q1⟩ => thn (ho.run pins s1 σ H1 _ I1 q1) fun u s2 ⟨x, H2, I2, rx, q2⟩ => thn (hi.run pins s2 σ H2 _ I2 q2) fun iv s3 ⟨y, H3, I3, ry, a, b, kvs, k, ex, ey, hD, kn, hk, d8, new, hz, q3⟩ => ?_) hs
  subst ex ey
  obtain rfl : u = Value.ref a := rx
  obtain rfl : iv = Value.ref b := ry
  exact nd_setItem hu I3 hD kn hk d8 new hz rv fun s4 I4 => ⟨σ, _, I4, q3⟩
theorem pc_dnotinN65 (hu : X.A.units + 65 < cLine) (hi : PE X i ty) (ho : PE X o td) : PC X .NotIn i o (tDNotInN X.prog X.w ty td) :=
  pc_dnotinN (by show X.A.units + 1 + 8 < cLine; omega) hi ho
theorem ps_dputN65 (hu : X.A.units + 65 < cLine) (ho : PE X o td) (hi : PE X i ty) (hv : PE X value tv) (hs : swapsWith value (some (.Subscript o i pos')) pos.line X.env = pure false) :
    PS X (.Assign [.Subscript o i pos'] value pos) (sDPutN X.prog X.w td ty tv) := ps_dputN (by show X.A.units + 1 + 8 < cLine; omega) ho hi hv hs
end
end GL

/-! A league among some of its people. -/
namespace GL
open PySem PySem.Spec PyProof.Rows
open L2 hiding spCell
def lotW (l : List Nat) (i : Nat) : Nat := l.getD i 0
def amongK (kss : List (List Int)) (l : List Nat) : List (List Int) := (List.range l.length).map fun i => (List.range i).map fun j => tieN kss (lotW l i) (lotW l j)
/-- some of n people, upwards -/
structure LotOf (n : Nat) (l : List Nat) : Prop where
  up : l.Pairwise (· < ·)
  low : ∀ x ∈ l, x < n
section
variable {kss kts kus : List (List Int)} {l : List Nat} {i j a b n : Nat}
theorem lotW_at (h : i < l.length) : l[i]? = some (lotW l i) := by
  unfold lotW
  rw [List.getElem?_eq_getElem h, List.getD_eq_getElem?_getD, List.getElem?_eq_getElem h]
  rfl
theorem lotW_mem (h : i < l.length) : lotW l i ∈ l := List.mem_of_getElem? (lotW_at h)
theorem mem_lotW {x : Nat} (h : x ∈ l) : ∃ i, i < l.length ∧ lotW l i = x := by
  obtain ⟨i, hi⟩ := List.mem_iff_getElem?.mp h
  have hl := (List.getElem?_eq_some_iff.mp hi).1
  rw [lotW_at hl] at hi
  exact ⟨i, hl, Option.some.inj hi⟩
theorem LotOf.lt (L : LotOf n l) (hij : i < j) (hj : j < l.length) : lotW l i < lotW l j := by
  have := List.pairwise_iff_getElem.mp L.up i j (by omega) hj hij
  unfold lotW
  rw [List.getD_eq_getElem?_getD, List.getD_eq_getElem?_getD, List.getElem?_eq_getElem hj, List.getElem?_eq_getElem (show i < l.length by omega)]
  exact this
theorem LotOf.below (L : LotOf n l) (h : i < l.length) : lotW l i < n := L.low _ (lotW_mem h)
theorem LotOf.ups (L : LotOf n l) (h : n ≤ 1000) : Up (lotW l) l.length := ⟨fun i j => L.lt, fun i hi => by have := L.below hi; omega⟩
theorem LotOf.ne (L : LotOf n l) (hi : i < l.length) (hj : j < l.length) (ne : i ≠ j) : lotW l i ≠ lotW l j := by
  by_cases c : i < j
  · have := L.lt c hj
    omega
  · have := L.lt (show j < i by omega) hi
    omega
theorem among_len (kss : List (List Int)) (l : List Nat) : (amongK kss l).length = l.length := by
  unfold amongK
  rw [List.length_map, List.length_range]
theorem among_get (h : i < l.length) : (amongK kss l)[i]? = some ((List.range i).map fun j => tieN kss (lotW l i) (lotW l j)) := by
  unfold amongK
  rw [List.getElem?_map, List.getElem?_range h]
  rfl
theorem among_fine (f : Fine 2 kss) (L : LotOf kss.length l) : Fine 2 (amongK kss l) := fun i ks h => by
  have hi : i < l.length := by
    have := (List.getElem?_eq_some_iff.mp h).1
    rwa [among_len] at this
  rw [among_get hi] at h
  cases h
  refine ⟨by rw [List.length_map, List.length_range], fun x hx => ?_⟩
  obtain ⟨j, hj, rfl⟩ := List.mem_map.mp hx
  have hj := List.mem_range.mp hj
  exact tieN_in f (L.below hi) (L.below (by omega)) (L.ne hi (by omega) (by omega))
theorem tie_among (hi : i < l.length) (hj : j < l.length) (ne : i ≠ j) : tieN (amongK kss l) i j = tieN kss (lotW l i) (lotW l j) := by
  have g : ∀ {i j : Nat}, i < l.length → j < i → tieN (amongK kss l) i j = tieN kss (lotW l i) (lotW l j) := fun {i j} hi ji => by
    show ((amongK kss l).getD (max i j) []).getD (min i j) 0 = _
    have e : (amongK kss l).getD i [] = (List.range i).map fun j => tieN kss (lotW l i) (lotW l j) := by
      rw [List.getD_eq_getElem?_getD, among_get hi]
      rfl
    rw [Nat.max_eq_left (by omega), Nat.min_eq_right (by omega), e]
    rw [List.getD_eq_getElem?_getD, List.getElem?_map, List.getElem?_range ji]
    rfl
  by_cases c : j < i
  · exact g hi c
  · rw [tieN_comm, g hj (by omega), tieN_comm]
theorem won_among (L : LotOf n l) (hi : i < l.length) (hj : j < l.length) (ne : i ≠ j) : wonB (amongK kss l) i j = wonB kss (lotW l i) (lotW l j) := by
  unfold wonB
  rw [tie_among hi hj ne]
  by_cases c : j < i
  · rw [if_pos c, if_pos (L.lt c hi)]
  · rw [if_neg c, if_neg (by have := L.lt (show i < j by omega) hj; omega)]
theorem beat_among (L : LotOf kss.length l) (n40 : kss.length ≤ 1000) (hi : i < l.length) : beatN kss (lotW l i) &&& bitsN l = beatF (lotW l) (amongK kss l) i := by
  have U := L.ups n40
  refine lift_of (by rw [among_len]; exact U) (fun j hj => ?_) fun x hx => ?_
  · rw [among_len] at hj
    rw [Nat.testBit_and, bitsN_bit, decide_eq_true (lotW_mem hj), Bool.and_true]
    by_cases e : i = j
    · subst e
      rw [beatN_own (L.below hi), beatN_own (by rw [among_len]; exact hi)]
    · rw [beatN_at (L.below hi) (L.below hj) (L.ne hi hj e), beatN_at (by rw [among_len]; exact hi) (by rw [among_len]; exact hj) e, won_among L hi hj e]
  · rw [Nat.testBit_and, bitsN_bit, decide_eq_false, Bool.and_false]
    intro m
    obtain ⟨j, hj, e⟩ := mem_lotW m
    exact hx j (by rw [among_len]; exact hj) e
/-! ### turns, seen among some -/
theorem among_same (L : LotOf kss.length l) (l2 : kts.length = kss.length) (h : ∀ x ∈ l, ∀ y ∈ l, x ≠ y → tieN kss x y = tieN kts x y) : amongK kss l = amongK kts l := by
  unfold amongK
  refine List.map_congr_left fun i hi => List.map_congr_left fun j hj => ?_
  have hi := List.mem_range.mp hi
  have hj := List.mem_range.mp hj
  exact h _ (lotW_mem hi) _ (lotW_mem (by omega)) (L.ne hi (by omega) (by omega))
theorem tie_turn (f : Fine 2 kss) (ab : a < b) (hb : b < kss.length) (i j : Nat) : tieN (turnK kss a b) i j = if max i j = b ∧ min i j = a then 1 - tieN kss a b else tieN kss i j := by
  unfold turnK
  rw [tie_setT f ab hb]
theorem among_turn (f : Fine 2 kss) (L : LotOf kss.length l) (hij : i < j) (hj : j < l.length) : amongK (turnK kss (lotW l i) (lotW l j)) l = turnK (amongK kss l) i j := by
  have ab := L.lt hij hj
  have hb := L.below hj
  have L2 : LotOf (turnK kss (lotW l i) (lotW l j)).length l := by rw [turnK_len]; exact L
  have fT := turnK_fine f ab hb
  have ha : j < (amongK kss l).length := by rw [among_len]; exact hj
  refine fine_same (among_fine fT L2) (turnK_fine (among_fine f L) hij ha) (by rw [turnK_len, among_len, among_len]) fun p q qp hp => ?_
  rw [among_len] at hp
  rw [tie_among hp (by omega) (by omega), tie_turn f ab hb, tie_turn (among_fine f L) hij ha]
  have e : (max (lotW l p) (lotW l q) = lotW l j ∧ min (lotW l p) (lotW l q) = lotW l i) ↔ (max p q = j ∧ min p q = i) := by
    have lt := L.lt qp hp
    rw [show max (lotW l p) (lotW l q) = lotW l p by omega, show min (lotW l p) (lotW l q) = lotW l q by omega, show max p q = p by omega, show min p q = q by omega]
    constructor
    · rintro ⟨e1, e2⟩
      exact ⟨Classical.byContradiction fun z => L.ne hp hj z e1, Classical.byContradiction fun z => L.ne (by omega) (by omega) z e2⟩
    · rintro ⟨rfl, rfl⟩
      exact ⟨rfl, rfl⟩
  by_cases c : max p q = j ∧ min p q = i
  · rw [if_pos c, if_pos (e.mpr c), tie_among (by omega) hj (by omega)]
  · rw [if_neg c, if_neg (fun z => c (e.mp z)), tie_among hp (by omega) (by omega)]
theorem among_al (L : LotOf kss.length l) (hi : i < l.length) (hj : j < l.length) (ne : i ≠ j) (al : alikeL kss (lotW l i) (lotW l j) = true) : alikeL (amongK kss l) i j = true := by
  rw [alikeL_iff]
  intro m hm mi mj
  rw [among_len] at hm
  rw [won_among L hm hi mi, won_among L hm hj mj]
  exact alikeL_iff.mp al _ (L.below hm) (L.ne hm hi mi) (L.ne hm hj mj)
/-- what turns make, seen among some, turns make -/
theorem jk_among (f : Fine 2 kss) (L : LotOf kss.length l) (h : JK kss kts) : JK (amongK kss l) (amongK kts l) := by
  induction h with
  | refl => exact .refl
  | @step kts a b h ab hb al ih =>
    have L2 : LotOf kts.length l := by rw [h.len]; exact L
    have fT := h.fine f
    by_cases c : a ∈ l ∧ b ∈ l
    · obtain ⟨i, hi, rfl⟩ := mem_lotW c.1
      obtain ⟨j, hj, rfl⟩ := mem_lotW c.2
      have hij : i < j := by
        refine Classical.byContradiction fun z => ?_
        by_cases e : i = j
        · subst e
          omega
        · have := L2.lt (show j < i by omega) hi
          omega
      rw [among_turn fT L2 hij hj]
      exact ih.step hij (by rw [among_len]; exact hj) (among_al L2 hi hj (by omega) al)
    · rw [among_same (kss := turnK kts a b) (kts := kts) (by rw [turnK_len]; exact L2) (by rw [turnK_len]) fun x hx y hy ne => ?_]
      · exact ih
      · rw [tie_turn fT ab hb, if_neg]
        intro z
        refine c ⟨?_, ?_⟩
        · rcases Nat.le_total x y with q | q
          · rw [Nat.min_eq_left q] at z
            exact z.2 ▸ hx
          · rw [Nat.min_eq_right q] at z
            exact z.2 ▸ hy
        · rcases Nat.le_total x y with q | q
          · rw [Nat.max_eq_right q] at z
            exact z.1 ▸ hy
          · rw [Nat.max_eq_left q] at z
            exact z.1 ▸ hx
end
end GL

/-! Leagues that are joined among any three and any four of their people are joined. -/
namespace GL
open PySem PySem.Spec PyProof.Rows
open L2 hiding spCell
section
variable {kss kts kus : List (List Int)} {l r : List Nat} {i j a b c d n : Nat}
theorem JK.symm (f : Fine 2 kss) (h : JK kss kts) : JK kts kss := by
  induction h with
  | refl => exact .refl
  | @step kts a b h ab hb al ih =>
    have f2 := h.fine f
    have hb' : b < (turnK kts a b).length := by rw [turnK_len]; exact hb
    have back : JK (turnK kts a b) kts := by
      have := (JK.refl (kss := turnK kts a b)).step ab hb' (alike_turn f2 ab hb al)
      rwa [turnK_back f2 ab hb] at this
    exact back.trans ih
/-- where no two stand alike, nothing can be turned -/
theorem jk_rigid (no : ∀ a b, a < b → b < kss.length → alikeL kss a b = false) (h : JK kss kts) : kts = kss := by
  induction h with
  | refl => rfl
  | @step kts a b h ab hb al ih =>
    subst ih
    rw [no a b ab hb] at al
    cases al
theorem won_tie (f : Fine 2 kss) (g : Fine 2 kts) (l : kts.length = kss.length) (hi : i < kss.length) (hj : j < kss.length) (ne : i ≠ j) (h : wonB kss i j = wonB kts i j) : tieN kss i j = tieN kts i j :=
  Classical.byContradiction fun z => (tie_won f g l hi hj ne).mp z h.symm
def Sub (n m : Nat) (kss kts : List (List Int)) : Prop := ∀ l, LotOf n l → l.length = m → JK (amongK kss l) (amongK kts l)
/-- some people of whom no two stand alike among themselves have their results in both -/
theorem rigid_same (f : Fine 2 kss) (e : kts.length = kss.length) (nd : r.Nodup) (low : ∀ x ∈ r, x < kss.length) (F : Sub kss.length r.length kss kts)
    (rig : ∀ p ∈ r, ∀ q ∈ r, p ≠ q → ∃ m ∈ r, m ≠ p ∧ m ≠ q ∧ wonB kss m p ≠ wonB kss m q) : ∀ p ∈ r, ∀ q ∈ r, p ≠ q → wonB kss p q = wonB kts p q := by
  obtain ⟨s1, s2⟩ := srt_of low
  have L : LotOf kss.length (srtN kss.length r) := ⟨s1, fun x hx => low x ((s2 x).mp hx)⟩
  have len : (srtN kss.length r).length = r.length := ((List.perm_ext_iff_of_nodup (s1.imp fun h => Nat.ne_of_lt h) nd).mpr s2).length_eq
  have J := F _ L len
  have no : ∀ a b, a < b → b < (amongK kss (srtN kss.length r)).length → alikeL (amongK kss (srtN kss.length r)) a b = false := fun a b ab hb => by
    rw [among_len] at hb
    refine Bool.eq_false_iff.mpr fun al => ?_
    obtain ⟨m, hm, mp, mq, w⟩ := rig _ ((s2 _).mp (lotW_mem (show a < _ by omega))) _ ((s2 _).mp (lotW_mem hb)) (L.ne (by omega) hb (by omega))
    obtain ⟨k, hk, rfl⟩ := mem_lotW ((s2 m).mpr hm)
    have ka : k ≠ a := fun z => mp (by rw [z])
    have kb : k ≠ b := fun z => mq (by rw [z])
    have := alikeL_iff.mp al k (by rw [among_len]; exact hk) ka kb
    rw [won_among L hk (by omega) ka, won_among L hk hb kb] at this
    exact w this
  have same := jk_rigid no J
  intro p hp q hq ne
  obtain ⟨i, hi, rfl⟩ := mem_lotW ((s2 p).mpr hp)
  obtain ⟨j, hj, rfl⟩ := mem_lotW ((s2 q).mpr hq)
  have ij : i ≠ j := fun z => ne (by rw [z])
  have L2 : LotOf kts.length (srtN kss.length r) := by rw [e]; exact L
  rw [← won_among L hi hj ij, ← won_among L2 hi hj ij, same]
/-- of three in a ring no two stand alike -/
theorem ring_same (f : Fine 2 kss) (e : kts.length = kss.length) (F : Sub kss.length 3 kss kts) (ha : a < kss.length) (hb : b < kss.length) (hc : c < kss.length) (ab : a ≠ b) (ac : a ≠ c) (bc : b ≠ c)
    (w1 : wonB kss a b = true) (w2 : wonB kss b c = true) (w3 : wonB kss c a = true) : wonB kts a b = true ∧ wonB kts b c = true ∧ wonB kts c a = true := by
  have v1 : wonB kss b a = false := by rw [won_anti f ha hb ab, w1]; rfl
  have v2 : wonB kss c b = false := by rw [won_anti f hb hc bc, w2]; rfl
  have v3 : wonB kss a c = false := by rw [won_anti f hc ha (Ne.symm ac), w3]; rfl
  have nd : [a, b, c].Nodup := by simp [ab, ac, bc]
  have low : ∀ x ∈ [a, b, c], x < kss.length := fun x hx => by
    simp only [List.mem_cons, List.not_mem_nil, or_false] at hx
    rcases hx with rfl | rfl | rfl <;> assumption
  have rig : ∀ p ∈ [a, b, c], ∀ q ∈ [a, b, c], p ≠ q → ∃ m ∈ [a, b, c], m ≠ p ∧ m ≠ q ∧ wonB kss m p ≠ wonB kss m q := by
    intro p hp q hq ne
    simp only [List.mem_cons, List.not_mem_nil, or_false] at hp hq
    rcases hp with rfl | rfl | rfl <;> rcases hq with rfl | rfl | rfl
    · exact absurd rfl ne
    · exact ⟨c, by simp, Ne.symm ac, Ne.symm bc, by rw [w3, v2]; decide⟩
    · exact ⟨b, by simp, Ne.symm ab, bc, by rw [v1, w2]; decide⟩
    · exact ⟨c, by simp, Ne.symm bc, Ne.symm ac, by rw [v2, w3]; decide⟩
    · exact absurd rfl ne
    · exact ⟨a, by simp, ab, ac, by rw [w1, v3]; decide⟩
    · exact ⟨b, by simp, bc, Ne.symm ab, by rw [w2, v1]; decide⟩
    · exact ⟨a, by simp, ac, ab, by rw [v3, w1]; decide⟩
    · exact absurd rfl ne
  have S := rigid_same f e nd low (by exact F) rig
  exact ⟨by rw [← S a (by simp) b (by simp) ab]; exact w1, by rw [← S b (by simp) c (by simp) bc]; exact w2, by rw [← S c (by simp) a (by simp) (Ne.symm ac)]; exact w3⟩
/-- three in a ring and one who beat all of them, or lost to all of them -/
theorem ring_four (f : Fine 2 kss) (e : kts.length = kss.length) (F : Sub kss.length 4 kss kts) (ha : a < kss.length) (hb : b < kss.length) (hc : c < kss.length) (hd : d < kss.length) (ab : a ≠ b) (ac : a ≠ c) (bc : b ≠ c) (da : d ≠ a) (db : d ≠ b) (dc : d ≠ c)
    (w1 : wonB kss a b = true) (w2 : wonB kss b c = true) (w3 : wonB kss c a = true) (t : Bool) (u1 : wonB kss d a = t) (u2 : wonB kss d b = t) (u3 : wonB kss d c = t) : ∀ p ∈ [a, b, c, d], ∀ q ∈ [a, b, c, d], p ≠ q → wonB kss p q = wonB kts p q := by
  have v1 : wonB kss b a = false := by rw [won_anti f ha hb ab, w1]; rfl
  have v2 : wonB kss c b = false := by rw [won_anti f hb hc bc, w2]; rfl
  have v3 : wonB kss a c = false := by rw [won_anti f hc ha (Ne.symm ac), w3]; rfl
  have x1 : wonB kss a d = !t := by rw [won_anti f hd ha da, u1]
  have x2 : wonB kss b d = !t := by rw [won_anti f hd hb db, u2]
  have x3 : wonB kss c d = !t := by rw [won_anti f hd hc dc, u3]
  have nd : [a, b, c, d].Nodup := by simp [ab, ac, bc, Ne.symm da, Ne.symm db, Ne.symm dc]
  have low : ∀ x ∈ [a, b, c, d], x < kss.length := fun x hx => by
    simp only [List.mem_cons, List.not_mem_nil, or_false] at hx
    rcases hx with rfl | rfl | rfl | rfl <;> assumption
  refine rigid_same f e nd low (by exact F) ?_
  intro p hp q hq ne
  have nb : ∀ t : Bool, (true ≠ !t) ∨ (false ≠ !t) := by decide
  -- of a ring and d: with d one of the ring's is found to whom d and it differ
  have key : ∀ x y z : Nat, x ∈ [a, b, c, d] → y ∈ [a, b, c, d] → z ∈ [a, b, c, d] → y ≠ x → z ≠ x → y ≠ d → z ≠ d → wonB kss y x = true → wonB kss z x = false → wonB kss y d = !t → wonB kss z d = !t → (∃ m ∈ [a, b, c, d], m ≠ x ∧ m ≠ d ∧ wonB kss m x ≠ wonB kss m d) := fun x y z hx hy hz yx zx yd zd h1 h2 h3 h4 => by
    cases t with
    | true => exact ⟨y, hy, yx, yd, by rw [h1, h3]; decide⟩
    | false => exact ⟨z, hz, zx, zd, by rw [h2, h4]; decide⟩
  have sw : ∀ x, (∃ m ∈ [a, b, c, d], m ≠ x ∧ m ≠ d ∧ wonB kss m x ≠ wonB kss m d) → ∃ m ∈ [a, b, c, d], m ≠ d ∧ m ≠ x ∧ wonB kss m d ≠ wonB kss m x := fun x ⟨m, h1, h2, h3, h4⟩ => ⟨m, h1, h3, h2, Ne.symm h4⟩
  have ka := key a c b (by simp) (by simp) (by simp) (Ne.symm ac) (Ne.symm ab) (Ne.symm dc) (Ne.symm db) w3 v1 x3 x2
  have kb := key b a c (by simp) (by simp) (by simp) ab (Ne.symm bc) (Ne.symm da) (Ne.symm dc) w1 v2 x1 x3
  have kc := key c b a (by simp) (by simp) (by simp) bc ac (Ne.symm db) (Ne.symm da) w2 v3 x2 x1
  simp only [List.mem_cons, List.not_mem_nil, or_false] at hp hq
  rcases hp with rfl | rfl | rfl | rfl <;> rcases hq with rfl | rfl | rfl | rfl
  · exact absurd rfl ne
  · exact ⟨c, by simp, Ne.symm ac, Ne.symm bc, by rw [w3, v2]; decide⟩
  · exact ⟨b, by simp, Ne.symm ab, bc, by rw [v1, w2]; decide⟩
  · exact ka
  · exact ⟨c, by simp, Ne.symm bc, Ne.symm ac, by rw [v2, w3]; decide⟩
  · exact absurd rfl ne
  · exact ⟨a, by simp, ab, ac, by rw [w1, v3]; decide⟩
  · exact kb
  · exact ⟨b, by simp, bc, Ne.symm ab, by rw [w2, v1]; decide⟩
  · exact ⟨a, by simp, ac, ab, by rw [v3, w1]; decide⟩
  · exact absurd rfl ne
  · exact kc
  · exact sw _ ka
  · exact sw _ kb
  · exact sw _ kc
  · exact absurd rfl ne
end
end GL

/-! Leagues that are joined among any three and any four of their people are joined. -/
namespace GL
open PySem PySem.Spec PyProof.Rows
open L2 hiding spCell
section
variable {kss kts kus : List (List Int)} {l r : List Nat} {i j a b c d n : Nat}
def betw (kss : List (List Int)) (a b : Nat) : List Nat := (List.range kss.length).filter fun x => decide (x ≠ a) && (decide (x ≠ b) && (wonB kss a x && wonB kss x b))
theorem betw_mem {x : Nat} : x ∈ betw kss a b ↔ x < kss.length ∧ x ≠ a ∧ x ≠ b ∧ wonB kss a x = true ∧ wonB kss x b = true := by
  unfold betw
  rw [List.mem_filter, List.mem_range, Bool.and_eq_true, Bool.and_eq_true, Bool.and_eq_true, decide_eq_true_iff, decide_eq_true_iff]
theorem betw_nodup : (betw kss a b).Nodup := List.Pairwise.filter _ List.nodup_range
theorem betw_less {x y : Nat} (h : ∀ z ∈ betw kss x y, z ∈ betw kss a b) (hc : c ∈ betw kss a b) (nc : c ∉ betw kss x y) : (betw kss x y).length < (betw kss a b).length := by
  have := List.Nodup.length_le_of_subset (l₁ := c :: betw kss x y) (l₂ := betw kss a b) (List.nodup_cons.mpr ⟨nc, betw_nodup⟩) fun z hz => by
    rcases List.mem_cons.mp hz with e | e
    · rw [e]
      exact hc
    · exact h z e
  rwa [List.length_cons] at this
theorem Sub.symm (f : Fine 2 kss) (e : kts.length = kss.length) {m : Nat} (F : Sub kss.length m kss kts) : Sub kts.length m kts kss := fun l L hl => by
  rw [e] at L
  exact (F l L hl).symm (among_fine f L)
theorem fours_next (f : Fine 2 kss) (g : Fine 2 kts) (e : kts.length = kss.length) (F3 : Sub kss.length 3 kss kts) (F4 : Sub kss.length 4 kss kts) : ∀ (k a b : Nat), a < kss.length → b < kss.length → a ≠ b → wonB kss a b = true → wonB kts a b = false → (betw kss a b).length ≤ k →
    ∃ p q, p < kss.length ∧ q < kss.length ∧ p ≠ q ∧ wonB kss p q = true ∧ wonB kts p q = false ∧ alikeL kss p q = true := by
  intro k
  induction k with
  | zero =>
    intro a b ha hb ab w v len
    have none : betw kss a b = [] := List.length_eq_zero_iff.mp (Nat.le_zero.mp len)
    refine ⟨a, b, ha, hb, ab, w, v, alikeL_iff.mpr fun m hm ma mb => ?_⟩
    have w' : wonB kss b a = false := by rw [won_anti f ha hb ab, w]; rfl
    cases x : wonB kss m a with
    | true =>
      cases y : wonB kss m b with
      | true => rfl
      | false =>
        have y' : wonB kss b m = true := by rw [won_anti f hm hb mb, y]; rfl
        have := (ring_same f e F3 ha hb hm ab (Ne.symm ma) (Ne.symm mb) w y' x).1
        rw [v] at this
        cases this
    | false =>
      cases y : wonB kss m b with
      | false => rfl
      | true =>
        have x' : wonB kss a m = true := by rw [won_anti f hm ha ma, x]; rfl
        have : m ∈ betw kss a b := betw_mem.mpr ⟨hm, ma, mb, x', y⟩
        rw [none] at this
        cases this
  | succ k ih =>
    intro a b ha hb ab w v len
    by_cases no : betw kss a b = []
    · exact ih a b ha hb ab w v (by rw [no]; exact Nat.zero_le _)
    obtain ⟨c, cs, ec⟩ := List.exists_cons_of_ne_nil no
    have hc : c ∈ betw kss a b := by rw [ec]; exact List.mem_cons_self ..
    obtain ⟨cl, ca, cb, c1, c2⟩ := betw_mem.mp hc
    have w' : wonB kss b a = false := by rw [won_anti f ha hb ab, w]; rfl
    have v' : wonB kts b a = true := by rw [won_anti g (by omega) (by omega) ab, v]; rfl
    have c2' : wonB kss b c = false := by rw [won_anti f cl hb cb, c2]; rfl
    have c1' : wonB kss c a = false := by rw [won_anti f ha cl (Ne.symm ca), c1]; rfl
    cases x : wonB kts a c with
    | false =>
      refine ih a c ha cl (Ne.symm ca) c1 x ?_
      have sub : ∀ z ∈ betw kss a c, z ∈ betw kss a b := fun z hz => by
        obtain ⟨z1, z2, z3, z4, z5⟩ := betw_mem.mp hz
        have zb : z ≠ b := fun q => by
          rw [q, c2'] at z5
          cases z5
        refine betw_mem.mpr ⟨z1, z2, zb, z4, ?_⟩
        cases y : wonB kss z b with
        | true => rfl
        | false =>
          have y' : wonB kss b z = true := by rw [won_anti f z1 hb zb, y]; rfl
          have := ring_four f e F4 z1 cl hb ha z3 zb cb (Ne.symm z2) (Ne.symm ca) ab z5 c2 y' true z4 c1 w a (by simp) b (by simp) ab
          rw [w, v] at this
          cases this
      have := betw_less sub hc fun q => (betw_mem.mp q).2.2.1 rfl
      omega
    | true =>
      cases y : wonB kts c b with
      | true =>
        exfalso
        have := (ring_same g e.symm (F3.symm f e) (by omega) (by omega) (by omega) (Ne.symm ca) ab cb x y v').1
        have h3 := (ring_same g e.symm (F3.symm f e) (by omega) (by omega) (by omega) (Ne.symm ca) ab cb x y v').2.2
        rw [w'] at h3
        cases h3
      | false =>
        refine ih c b cl hb cb c2 y ?_
        have sub : ∀ z ∈ betw kss c b, z ∈ betw kss a b := fun z hz => by
          obtain ⟨z1, z2, z3, z4, z5⟩ := betw_mem.mp hz
          have za : z ≠ a := fun q => by
            rw [q, c1'] at z4
            cases z4
          refine betw_mem.mpr ⟨z1, za, z3, ?_, z5⟩
          cases u : wonB kss a z with
          | true => rfl
          | false =>
            have u' : wonB kss z a = true := by rw [won_anti f ha z1 (Ne.symm za), u]; rfl
            have z5' : wonB kss b z = false := by rw [won_anti f z1 hb z3, z5]; rfl
            have := ring_four f e F4 z1 ha cl hb za z2 (Ne.symm ca) (Ne.symm z3) (Ne.symm ab) (Ne.symm cb) u' c1 z4 false z5' w' c2' a (by simp) b (by simp) ab
            rw [w, v] at this
            cases this
        have := betw_less sub hc fun q => (betw_mem.mp q).2.1 rfl
        omega
theorem sub_turn (f : Fine 2 kss) {m : Nat} (h : JK kss kus) (F : Sub kss.length m kss kts) : Sub kus.length m kus kts := fun l L hl => by
  rw [h.len] at L
  exact ((jk_among f L h).symm (among_fine f L)).trans (F l L hl)
theorem fours_jk (g : Fine 2 kts) : ∀ (d : Nat) {kss : List (List Int)}, Fine 2 kss → kts.length = kss.length → Sub kss.length 3 kss kts → Sub kss.length 4 kss kts → hamK kss kts = d → JK kss kts
  | 0, kss, f, e, _, _, h => by
    rw [(ham_zero f g e).mp h]
    exact .refl
  | d + 1, kss, f, e, F3, F4, h => by
    have ne : kss ≠ kts := fun z => by
      rw [(ham_zero f g e).mpr z] at h
      cases h
    have : ∃ i j, j < i ∧ i < kss.length ∧ tieN kss i j ≠ tieN kts i j := Classical.byContradiction fun z => ne (fine_same f g e fun i j ji hi => Classical.byContradiction fun y => z ⟨i, j, ji, hi, y⟩)
    obtain ⟨i, j, ji, hi, t⟩ := this
    have hj : j < kss.length := by omega
    have ij : i ≠ j := by omega
    have wv : wonB kts i j ≠ wonB kss i j := (tie_won f g e hi hj ij).mp t
    have : ∃ a b, a < kss.length ∧ b < kss.length ∧ a ≠ b ∧ wonB kss a b = true ∧ wonB kts a b = false := by
      cases w : wonB kss i j with
      | true =>
        refine ⟨i, j, hi, hj, ij, w, ?_⟩
        cases v : wonB kts i j with
        | true => exact absurd (v.trans w.symm) wv
        | false => rfl
      | false =>
        refine ⟨j, i, hj, hi, Ne.symm ij, by rw [won_anti f hi hj ij, w]; rfl, ?_⟩
        rw [won_anti g (by omega) (by omega) ij]
        cases v : wonB kts i j with
        | true => rfl
        | false => exact absurd (v.trans w.symm) wv
    obtain ⟨a, b, ha, hb, ab, w, v⟩ := this
    obtain ⟨p, q, hp, hq, pq, wp, vp, al⟩ := fours_next f g e F3 F4 _ a b ha hb ab w v (Nat.le_refl _)
    have go : ∀ x y, x < y → y < kss.length → alikeL kss x y = true → tieN kss x y ≠ tieN kts x y → JK kss kts := fun x y xy hy al t => by
      have u : unl kss kts (x, y) = true := decide_eq_true t
      have less := ham_less f g e xy hy u
      have st := (JK.refl (kss := kss)).step xy hy al
      have l2 : kts.length = (turnK kss x y).length := by rw [turnK_len]; exact e
      exact st.trans (fours_jk g d (turnK_fine f xy hy) l2 (sub_turn f st F3) (sub_turn f st F4) (by omega))
    have tpq : tieN kss p q ≠ tieN kts p q := (tie_won f g e hp hq pq).mpr (by rw [wp, vp]; decide)
    by_cases c : p < q
    · exact go p q c hq al tpq
    · exact go q p (by omega) hp (by rw [alikeL_comm]; exact al) (by rw [tieN_comm kss, tieN_comm kts]; exact tpq)
theorem fours (f : Fine 2 kss) (g : Fine 2 kts) (e : kts.length = kss.length) : JK kss kts ↔ Sub kss.length 3 kss kts ∧ Sub kss.length 4 kss kts :=
  ⟨fun h => ⟨fun l L _ => jk_among f L h, fun l L _ => jk_among f L h⟩, fun h => fours_jk g _ f e h.1 h.2 rfl⟩
end
end GL

namespace K58
open PySem PySem.Spec PyProof.Rows
open L2 hiding spCell
open GL
def spChkLs : Sp := fun vs H Q _ => ∃ (a b : Addr) (rs rs' : List Addr) (kss kts : List (List Int)), vs = [.ref a, .ref b] ∧ Tab H a rs kss ∧ Tab H b rs' kts ∧ Fine 2 kss ∧ Fine 2 kts ∧ 1 ≤ kss.length ∧ kts.length = kss.length ∧ kss.length ≤ 40 ∧ ∀ H', Same H H' → Q .non H'
def spAmongD : Sp := fun vs H Q _ => ∃ (d L : Addr) (kss : List (List Int)) (l : List Nat), vs = [.ref d, .ref L] ∧ H d = some (.dK (dG kss.length (fun p => p) (beatF (fun p => p) kss))) ∧ Fine 2 kss ∧ kss.length ≤ 40 ∧ H L = some (.lst (natV l)) ∧ LotOf kss.length l ∧
  ∀ (e : Addr) (H' : Hp), Same H H' → H e = none → H' e = some (.dK (dG l.length (lotW l) (beatF (lotW l) (amongK kss l)))) → Q (.ref e) H'
section
variable {P : Program} {w : World} {K : PySem.W.Frag} {mg : Str → Option Value} {base : Heap}
abbrev sChkLs : Stmt := topS 15
abbrev nChkLs : List Str := ["one", "other"]
theorem scChkLs : FnScope nChkLs ["one", "other"] (defScope sChkLs) := ⟨rfl, rfl, rfl, by decide +kernel, rfl, by decide +kernel, by decide +kernel⟩
theorem ok_chkLs {f : Addr} {fd : FuncData} (F : Fun K "check_leagues" "check_leagues" sChkLs f fd) (T : Bi mg) (Ucheckleague : Use P w K mg base "check_league" ["league"] (spChkL K) 6) : FnOk P w K mg base CX0 7 f fd ["one", "other"] spChkLs := by
  refine F.ok scChkLs (fun vs H Q E h => ?_) (fun cdv A outer s H vs Q E hr h => ?_)
  · obtain ⟨a, b, rs, rs', kss, kts, rfl, _⟩ := h
    rfl
  · obtain ⟨a, b, rs, rs', kss, kts, rfl, t, t2, fine, fine2, one, l, n40, q⟩ := h
    refine ⟨_, (pss_cons (ps_expr (pe_use Ucheckleague hr (by rfl) (pa_cons (pv 0) pa_nil)))
      (pss_cons (ps_expr (pe_use Ucheckleague hr (by rfl) (pa_cons (pv 1) pa_nil)))
      (pss_one (ps_if (pt_cmpR op_ne (pe_callB call_len_seq (by rfl) T.len PySem.boot_len (pa_cons (pv 0) pa_nil)) (pe_callB call_len_seq (by rfl) T.len PySem.boot_len (pa_cons (pv 1) pa_nil)) (nomark _))
        (pss_one ps_never) pss_nil)))), ?_⟩
    have la : (rs.map V.ref).length = kss.length := by rw [List.length_map, t.len]
    have lb : (rs'.map V.ref).length = kss.length := by rw [List.length_map, t2.len, l]
    refine ⟨_, rfl, .ref a, tabP kss, rfl, t.dt, fine.comp one n40, fun H1 s1 => ?_⟩
    refine ⟨_, rfl, .ref b, tabP kts, rfl, (t2.same s1).dt, fine2.comp (by omega) (by omega), fun H2 s2 => ?_⟩
    have s12 := s1.trans s2
    refine ⟨_, rfl, a, _, rfl, .inl (SqL.of (s12 _ _ t.top)), _, rfl, b, _, rfl, .inl (SqL.of (s12 _ _ t2.top)), rfl, _, rfl, ?_⟩
    rw [la, lb]
    exact iteNS rfl (q _ s12)
abbrev sAmongD : Stmt := topS 17
abbrev nAmongD : List Str := ["beaten", "lot", "bits", "person"]
theorem scAmongD : FnScope nAmongD ["beaten", "lot"] (defScope sAmongD) := ⟨rfl, rfl, rfl, by decide +kernel, rfl, by decide +kernel, by decide +kernel⟩
theorem ok_amongD {f : Addr} {fd : FuncData} (F : Fun K "beaten_among" "beaten_among" sAmongD f fd) (T : Bi mg) (Ubitsof : Use P w K mg base "bits_of" ["people"] spBits 1) : FnOk P w K mg base CX0 2 f fd ["beaten", "lot"] spAmongD := by
  refine F.ok scAmongD (fun vs H Q E h => ?_) (fun cdv A outer s H vs Q E hr h => ?_)
  · obtain ⟨d, L, kss, l, rfl, _⟩ := h
    rfl
  · obtain ⟨d, L, kss, l, rfl, hd, fine, n40, hL, LO, q⟩ := h
    refine ⟨_, (pss_cons (ps_set (i := 2) scAmongD.nd rfl (Or.inr rfl) (pe_use Ubitsof hr (by rfl) (pa_cons (pv 1) pa_nil)))
      (pss_one (ps_ret (pe_dc (own := [("person", 3)]) (g := (gName 3)) rfl scAmongD.nd (pi_list (pv 1)) (blkOk_by (N := nAmongD) (sc := (defScope sAmongD)) (by decide +kernel)) (fun _ _ _ _ _ => (pg_name (i := 3) scAmongD.nd rfl (Or.inl rfl))) (fun _ _ _ _ _ => by exact pts_nil) (fun _ _ _ _ _ => by exact (pv 3)) (fun _ _ _ _ _ => by exact (pe_op opN_and (pe_dget (hu_of hr) (pv 0) (pv 3) (fun _ _ => rfl)) (pv 2))))))), ?_⟩
    have n1000 : kss.length ≤ 1000 := by omega
    have U := LO.ups n1000
    have ll : l.length ≤ 40 := by
      have := List.Nodup.length_le_of_subset (LO.up.imp fun h => Nat.ne_of_lt h) (l₂ := List.range kss.length) fun x hx => List.mem_range.mpr (LO.low x hx)
      rw [List.length_range] at this
      omega
    have lnat : (natV l).length = l.length := natV_len l
    refine ⟨_, rfl, L, l, rfl, hL, fun p hp => by have := LO.low p hp; omega, ?_⟩
    refine gName_by ?_
    refine ⟨_, rfl, L, rfl, ⟨_, SqL.of hL⟩, fun D hD => ?_⟩
    refine dc_it (walk_list (K := K) (a := L) (xs := natV l)) (fun i H' => Same H H' ∧ H' D = some (.dK (dG i (lotW l) (beatF (lotW l) (amongK kss l))))) ⟨same_new hD, upd_same⟩ (fun _ _ _ z => SqL.of (z.1 _ _ hL)) ?_ ?_
    · rintro i x H1 H2 hi ⟨s1, h1⟩ ⟨rfl, ex⟩
      rw [lnat] at hi
      have ex : (natV l)[i]? = some x := ex
      unfold natV at ex
      rw [List.getElem?_map, lotW_at hi] at ex
      cases ex
      refine ⟨rfl, yes_of ?_⟩
      have get : DGet H2 d (.int ((lotW l i : Nat) : Int)) (some (.int ((beatN kss (lotW l i) : Nat) : Int))) := by
        have := getU (up_id n1000) (s1 _ _ hd) (LO.below hi)
        rw [beatF_id n1000 (LO.below hi)] at this
        exact this
      refine ⟨_, rfl, _, rfl, _, rfl, d, _, rfl, get, _, rfl, _, _, rfl, rfl, ?_⟩
      dsimp only
      rw [beat_among LO n1000 hi]
      refine ⟨_, Sum.inl ((lotW l i : Nat) : Int), rfl, h1, ?_, fun b o e' => ?_, ?_⟩
      · rw [dG_len]
        exact small1000 (by omega)
      · rw [upd_ne (ne_of_none e' hD)]
        exact s1 b o e'
      · rw [upd_same]
        exact congrArg (fun k => some (HO.dK k)) (dG_more fun j hj e => by
          have := LO.lt hj hi
          omega)
    · rintro H1 ⟨s1, h1⟩
      rw [lnat] at h1
      exact q D H1 s1 hD h1
end
end K58

/-! What some people's results are, as a key. -/
namespace GL
open PySem PySem.Spec PyProof.Rows
open L2 hiding spCell
section
variable {kss kts : List (List Int)} {l l' : List Nat} {i j a b n m : Nat} {H : Hp}
def bitI (kss : List (List Int)) (a b : Nat) : Nat := if wonB kss a b = true then 1 else 0
theorem shr_one (x b : Nat) : (x >>> b) &&& 1 = (x.testBit b).toNat := by
  rw [Nat.toNat_testBit, Nat.shiftRight_eq_div_pow, Nat.and_one_is_mod]
theorem bit_at (ha : a < kss.length) (hb : b < kss.length) (ne : a ≠ b) : (beatN kss a >>> b) &&& 1 = bitI kss a b := by
  rw [shr_one, beatN_at ha hb ne]
  unfold bitI
  cases wonB kss a b <;> rfl
def prsP (kss kts : List (List Int)) (l : List Nat) (c : Nat × Nat) : Nat × Nat := (bitI kss (lotW l c.1) (lotW l c.2), bitI kts (lotW l c.1) (lotW l c.2))
def keyC (cs : List (Nat × Nat)) : NestedKey := .tup (cs.map fun c => .tup [.num ((c.1 : Nat) : Int), .num ((c.2 : Nat) : Int)])
def keyP (kss kts : List (List Int)) (l : List Nat) : NestedKey := keyC ((cplTo l.length l.length).map (prsP kss kts l))
theorem keyC_depth (cs : List (Nat × Nat)) : (keyC cs).depth ≤ 8 := by
  have h : ∀ cs : List (Nat × Nat), NestedKey.depthAll (cs.map fun c => NestedKey.tup [.num ((c.1 : Nat) : Int), .num ((c.2 : Nat) : Int)]) ≤ 3 := fun cs => by
    induction cs with
    | nil => simp [NestedKey.depthAll]
    | cons c cs ih =>
      rw [List.map_cons]
      simp only [NestedKey.depthAll, NestedKey.depth]
      omega
  unfold keyC
  have := h cs
  simp only [NestedKey.depth]
  omega
theorem keyC_inj {cs ds : List (Nat × Nat)} (h : keyC cs = keyC ds) : cs = ds := by
  unfold keyC at h
  have h := NestedKey.tup.inj h
  refine map_injF (f := fun c : Nat × Nat => NestedKey.tup [.num ((c.1 : Nat) : Int), .num ((c.2 : Nat) : Int)]) (P := fun _ => True) (fun a b _ _ e => ?_) (fun _ _ => trivial) (fun _ _ => trivial) h
  have e := NestedKey.tup.inj e
  obtain ⟨e1, e2⟩ := List.cons.inj e
  have e2 := (List.cons.inj e2).1
  have e1 := NestedKey.num.inj e1
  have e2 := NestedKey.num.inj e2
  exact Prod.ext (by omega) (by omega)
theorem nk_pairs {bs : List Addr} {cs : List (Nat × Nat)} (len : bs.length = cs.length) (row : ∀ (j : Nat) (b : Addr) (c : Nat × Nat), bs[j]? = some b → cs[j]? = some c → H b = some (.tup (pairT c))) : NKs H (bs.map V.ref) (cs.map fun c => .tup [.num ((c.1 : Nat) : Int), .num ((c.2 : Nat) : Int)]) := by
  induction bs generalizing cs with
  | nil =>
    cases cs with
    | nil => exact .nil
    | cons c cs => cases len
  | cons b bs ih =>
    cases cs with
    | nil => cases len
    | cons c cs =>
      refine .cons (.tup (row 0 b c rfl rfl) (.cons (.int _) (.cons (.int _) .nil))) (ih (by simpa using len) fun j b' c' h1 h2 => row (j + 1) b' c' h1 h2)
theorem key_nk {K0 : Addr} {bs : List Addr} {cs : List (Nat × Nat)} (top : H K0 = some (.tup (bs.map V.ref))) (len : bs.length = cs.length) (row : ∀ (j : Nat) (b : Addr) (c : Nat × Nat), bs[j]? = some b → cs[j]? = some c → H b = some (.tup (pairT c))) : NK H (.ref K0) (keyC cs) :=
  .tup top (nk_pairs len row)
theorem map_eq_at {α β : Type} {f g : α → β} : ∀ {l : List α}, l.map f = l.map g → ∀ x ∈ l, f x = g x
  | [], _, _, h => nomatch h
  | y :: l, e, x, h => by
    rw [List.map_cons, List.map_cons] at e
    obtain ⟨e1, e2⟩ := List.cons.inj e
    rcases List.mem_cons.mp h with rfl | h
    · exact e1
    · exact map_eq_at e2 x h
/-- the same key: the same leagues among them -/
theorem key_among (f : Fine 2 kss) (g : Fine 2 kts) (e : kts.length = kss.length) (L : LotOf kss.length l) (L' : LotOf kss.length l') (len : l.length = l'.length) (h : keyP kss kts l = keyP kss kts l') : amongK kss l = amongK kss l' ∧ amongK kts l = amongK kts l' := by
  have h := keyC_inj h
  rw [← len] at h
  have at_ := map_eq_at h
  have gen : ∀ (k : List (List Int)), Fine 2 k → k.length = kss.length → (∀ i j, i < j → j < l.length → bitI k (lotW l i) (lotW l j) = bitI k (lotW l' i) (lotW l' j)) → amongK k l = amongK k l' := fun k fk lk hb => by
    have Lk : LotOf k.length l := by rw [lk]; exact L
    have Lk' : LotOf k.length l' := by rw [lk]; exact L'
    refine fine_same (among_fine fk Lk) (among_fine fk Lk') (by rw [among_len, among_len, len]) fun i j ji hi => ?_
    rw [among_len] at hi
    have hw : wonB (amongK k l) j i = wonB (amongK k l') j i := by
      rw [won_among Lk (by omega) hi (by omega), won_among Lk' (by omega) (by omega) (by omega)]
      have := hb j i ji hi
      unfold bitI at this
      cases h1 : wonB k (lotW l j) (lotW l i) <;> cases h2 : wonB k (lotW l' j) (lotW l' i) <;> rw [h1, h2] at this <;> first | rfl | (simp at this)
    have := won_tie (among_fine fk Lk) (among_fine fk Lk') (by rw [among_len, among_len, len]) (i := j) (j := i) (by rw [among_len]; omega) (by rw [among_len]; exact hi) (by omega) hw
    rw [tieN_comm, this, tieN_comm]
  have pr : ∀ i j, i < j → j < l.length → prsP kss kts l (i, j) = prsP kss kts l' (i, j) := fun i j ij hj => at_ (i, j) ((cpl_mem _ _ _ _).mpr ⟨by omega, ij, hj⟩)
  exact ⟨gen kss f rfl fun i j ij hj => congrArg Prod.fst (pr i j ij hj), gen kts g e fun i j ij hj => congrArg Prod.snd (pr i j ij hj)⟩
end
def spFirstQ : Sp := fun vs H Q _ => ∃ (d e : Addr) (kss kts : List (List Int)) (m : Nat), vs = [.ref d, .ref e, .int ((m : Nat) : Int)] ∧ H d = some (.dK (dG kss.length (fun p => p) (beatF (fun p => p) kss))) ∧ H e = some (.dK (dG kts.length (fun p => p) (beatF (fun p => p) kts))) ∧ Fine 2 kss ∧ Fine 2 kts ∧ kts.length = kss.length ∧ kss.length ≤ 40 ∧ m ≤ 4 ∧
  (∀ H', Same H H' → (∀ l ∈ Cmb.choices kss.length m, JK (amongK kss l) (amongK kts l)) → Q .non H') ∧
  ∀ (p : Addr) (H' : Hp) (l : List Nat) (i : Nat), Same H H' → H p = none → H' p = some (.lst (natV l)) → (Cmb.choices kss.length m)[i]? = some l → ¬ JK (amongK kss l) (amongK kts l) → (∀ j l', j < i → (Cmb.choices kss.length m)[j]? = some l' → JK (amongK kss l') (amongK kts l')) → Q (.ref p) H'
end GL

namespace K58
open PySem PySem.Spec PyProof.Rows
open L2 hiding spCell
open GL
theorem natV_lot (l : List Nat) : natV l = (List.range l.length).map fun j => V.int ((lotW l j : Nat) : Int) := by
  refine List.ext_getElem? fun i => ?_
  unfold natV
  rw [List.getElem?_map, List.getElem?_map]
  by_cases h : i < l.length
  · rw [lotW_at h, List.getElem?_range h]
    rfl
  · rw [List.getElem?_eq_none (by omega), List.getElem?_eq_none (by rw [List.length_range]; omega)]
    rfl
theorem pair_at {k j : Nat} {c : List Nat} (h : (Cmb.choices k 2)[j]? = some c) : ∃ p, (cplTo k k)[j]? = some p ∧ c = [p.1, p.2] := by
  have e := choices_two k k 0 (Nat.zero_add k)
  have e0 : (cplTo k 0).map (fun c => [c.1, c.2]) = [] := rfl
  rw [e0, List.nil_append] at e
  have h : (Cmb.combs k 2 k 0)[j]? = some c := h
  rw [← e, List.getElem?_map] at h
  obtain ⟨p, hp, rfl⟩ := Option.map_eq_some_iff.mp h
  exact ⟨p, hp, rfl⟩
theorem choices_two_len (k : Nat) : (Cmb.choices k 2).length = (cplTo k k).length := by
  have e := choices_two k k 0 (Nat.zero_add k)
  have e0 : (cplTo k 0).map (fun c => [c.1, c.2]) = [] := rfl
  rw [e0, List.nil_append] at e
  show (Cmb.combs k 2 k 0).length = _
  rw [← e, List.length_map]
theorem chs_many (n : Nat) : ∀ r d lo, (Cmb.combs n r d lo).length ≤ (d + 1) ^ r
  | 0, d, lo => by
    cases d <;> (rw [Cmb.combs]; exact Nat.le_refl _)
  | r + 1, 0, lo => by
    rw [Cmb.combs]
    exact Nat.zero_le _
  | r + 1, d + 1, lo => by
    rw [Cmb.combs, List.length_append, List.length_map]
    have h1 := chs_many n r d (lo + 1)
    have h2 := chs_many n (r + 1) d (lo + 1)
    have h3 : (d + 1) ^ r ≤ (d + 2) ^ r := Nat.pow_le_pow_left (by omega) r
    rw [Nat.pow_succ] at h2 ⊢
    have h5 : (d + 1) ^ r * (d + 1) ≤ (d + 2) ^ r * (d + 1) := Nat.mul_le_mul_right _ h3
    have h6 : (d + 2) ^ r * (d + 1 + 1) = (d + 2) ^ r * (d + 1) + (d + 2) ^ r := Nat.mul_succ _ _
    show _ ≤ (d + 2) ^ r * (d + 1 + 1)
    omega
theorem chs_small {n m : Nat} (h : n ≤ 40) (h2 : m ≤ 4) : (Cmb.choices n m).length ≤ sizeLine - 1 := by
  have h1 := chs_many n m n 0
  have h3 : (n + 1) ^ m ≤ 41 ^ m := Nat.pow_le_pow_left (by omega) m
  have h4 : 41 ^ m ≤ 41 ^ 4 := Nat.pow_le_pow_right (by decide) h2
  rw [sizeLine_eq]
  exact Nat.le_trans h1 (Nat.le_trans h3 (Nat.le_trans h4 (by decide)))
theorem valN_mem {kvs : List NE} {k : NestedKey} {v : V} (h : valN kvs k = some v) : ∃ p ∈ kvs, p.1 = k ∧ p.2.2 = v := by
  unfold valN at h
  obtain ⟨p, hp, rfl⟩ := Option.map_eq_some_iff.mp h
  exact ⟨p, List.mem_of_find?_eq_some hp, of_decide_eq_true (List.find?_some (p := fun p : NE => decide (p.1 = k)) hp), rfl⟩
section
variable {P : Program} {w : World} {K : PySem.W.Frag} {mg : Str → Option Value} {base : Heap}
abbrev sFirstQ : Stmt := topS 22
abbrev nFirstQ : List Str := ["beaten", "others", "many", "joined", "people", "lot", "results", "low", "high"]
theorem scFirstQ : FnScope nFirstQ ["beaten", "others", "many"] (defScope sFirstQ) := ⟨rfl, rfl, rfl, by decide +kernel, rfl, by decide +kernel, by decide +kernel⟩
theorem ok_firstQ {f : Addr} {fd : FuncData} (F : Fun K "first_parting_lot" "first_parting_lot" sFirstQ f fd) (T : Bi mg) (I : Im mg) (Ubeatenamong : Use P w K mg base "beaten_among" ["beaten", "lot"] spAmongD 2) (Uareofoneclass : Use P w K mg base "are_of_one_class" ["beaten", "others"] spOneF 3) : FnOk P w K mg base CX0 4 f fd ["beaten", "others", "many"] spFirstQ := by
  refine F.ok scFirstQ (fun vs H Q E h => ?_) (fun cdv A outer s H vs Q E hr h => ?_)
  · obtain ⟨d, e, kss, kts, m, rfl, _⟩ := h
    rfl
  · obtain ⟨d, e, kss, kts, m, rfl, hd, he, fine, fine2, l, n40, m4, qn, qp⟩ := h
    have h65 : (A.deeper (envOfC "first_parting_lot" (defScope sFirstQ) s.heap.objs.size f cdv)).units + 65 < cLine := by
      have := hr.un
      omega
    refine ⟨_, (pss_cons (ps_set (i := 3) scFirstQ.nd rfl (Or.inl rfl) pe_dnewN)
      (pss_cons (ps_for PassesOwn.never rfl (Cmb.pi_comb (by rfl) I (pa_cons (pe_callTy Cmb.cr_range1 (by rfl) T.range (by decide +kernel) (pa_cons (pe_callB call_lenD (by rfl) T.len PySem.boot_len (pa_cons (pv 0) pa_nil)) pa_nil)) (pa_cons (pv 2) pa_nil))) (pg_name (i := 4) scFirstQ.nd rfl (Or.inl rfl))
        (pss_cons (ps_set (i := 5) scFirstQ.nd rfl (Or.inl rfl) (pe_callTy call_lstT (by rfl) T.list PyProof.Rows.boot_list (pa_cons (pv 4) pa_nil)))
        (pss_cons (ps_set (i := 6) scFirstQ.nd rfl (Or.inl rfl) (pe_callTy call_tupL (by rfl) T.tuple (by decide +kernel) (pa_cons (pe_lc (own := [("low", 7), ("high", 8)]) (g := (gTup K 2 (gCons (gName 7) (gCons (gName 8) gNil)))) (tt := tYes) (te := (tTup (tCons (tOp (rN fun a b => a &&& b) (tOp (rN fun a p => a >>> p) (tDGet (tVar 0) (tVar 7)) (tVar 8)) (tC (.int 1))) (tCons (tOp (rN fun a b => a &&& b) (tOp (rN fun a p => a >>> p) (tDGet (tVar 1) (tVar 7)) (tVar 8)) (tC (.int 1))) tNil)))) rfl scFirstQ.nd (Cml.pi_combL (by rfl) I (pa_cons (pv 5) (pa_cons pe_int pa_nil)))
            (blkOk_by (N := nFirstQ) (sc := (defScope sFirstQ)) (by decide +kernel)) (fun _ _ _ _ _ => (pg_tup rfl (pgs_cons (pg_name (i := 7) scFirstQ.nd rfl (Or.inl rfl)) (pgs_cons (pg_name (i := 8) scFirstQ.nd rfl (Or.inl rfl)) pgs_nil)))) (fun _ _ _ _ _ => by exact pts_nil)
            (fun _ _ _ _ _ => by exact (pe_tup (pa_cons (pe_op opN_and (pe_op opN_shr (pe_dget (hu_of hr) (pv 0) (pv 7) (fun _ _ => rfl)) (pv 8)) pe_int) (pa_cons (pe_op opN_and (pe_op opN_shr (pe_dget (hu_of hr) (pv 1) (pv 7) (fun _ _ => rfl)) (pv 8)) pe_int) pa_nil))))) pa_nil)))
        (pss_cons (ps_if (pt_cmp (pc_dnotinN65 h65 (pv 6) (pv 3)))
          (pss_one (ps_dputN65 h65 (pv 3) (pv 6) (pe_use Uareofoneclass hr (by rfl) (pa_cons (pe_use Ubeatenamong (hr.mono (by decide)) (by rfl) (pa_cons (pv 0) (pa_cons (pv 5) pa_nil))) (pa_cons (pe_use Ubeatenamong (hr.mono (by decide)) (by rfl) (pa_cons (pv 1) (pa_cons (pv 5) pa_nil))) pa_nil))) rfl)) pss_nil)
        (pss_one (ps_if (pt_not (pt_val (pe_dgetN65 h65 (pv 3) (pv 6) (fun _ _ => rfl))))
          (pss_one (ps_ret (pv 5))) pss_nil))))))
      (pss_one (ps_ret pe_non)))), ?_⟩
    have n1000 : kss.length ≤ 1000 := by omega
    obtain ⟨N, hN⟩ : ∃ N, N = (Cmb.choices kss.length m).length := ⟨_, rfl⟩
    refine fun J hJ => ?_
    refine gName_by ?_
    refine ⟨_, rfl, d, _, rfl, same_new hJ _ _ hd, _, rfl, fun R hR => ?_⟩
    rw [dG_len]
    refine ⟨_, rfl, R, kss.length, m, rfl, upd_same, by omega, by omega, ?_⟩
    have sR : Same H (upd (upd H J (ndO P w J [])) R (.rng 0 kss.length)) := (same_new hJ).trans (same_new hR)
    have RJ : R ≠ J := fun z => by
      rw [z, upd_same] at hR
      cases hR
    refine for_it (Cmb.walk_comb (n := kss.length) (r := m)) (fun i σ H' => ∃ (kvs : List NE) (e4 e5 e6 : Option V), σ = [some (.ref d), some (.ref e), some (.int ((m : Nat) : Int)), some (.ref J), e4, e5, e6, none, none] ∧ Same H H' ∧ H' J = some (ndO P w J kvs) ∧ keysN (GL.hid H' J) kvs ∧ (kvs.map (·.1)).Nodup ∧ kvs.length ≤ i ∧ (∀ p ∈ kvs, ∃ l ∈ Cmb.choices kss.length m, p.1 = keyP kss kts l ∧ p.2.2 = .bl true ∧ JK (amongK kss l) (amongK kts l)) ∧ ∀ j l', j < i → (Cmb.choices kss.length m)[j]? = some l' → JK (amongK kss l') (amongK kts l'))
      ⟨[], _, _, _, rfl, sR, by rw [upd_ne RJ.symm]; exact upd_same, (fun p hp => nomatch hp), List.nodup_nil, Nat.le_refl _, (fun p hp => nomatch hp), fun j l' h => absurd h (Nat.not_lt_zero _)⟩ (fun _ _ _ _ _ => trivial) ?_ ?_
    · rintro i x σ H2 H3 hi ⟨kvs, e4, e5, e6, rfl, s2, hJ2, kn, nd, len, ent, old⟩ ⟨T0, l0, rfl, nT, el, rfl⟩
      have lm := List.mem_of_getElem? el
      have ll := Cmb.choices_len lm
      have LO : LotOf kss.length l0 := ⟨combs_up kss.length m kss.length 0 (Nat.zero_add _) l0 lm, fun x hx => Cmb.choices_low lm x hx⟩
      have sT := same_new (o := .tup (Cmb.natT l0)) nT
      refine gName_by ?_
      refine ⟨_, rfl, T0, _, rfl, SqT.of upd_same, fun z hz => ?_⟩
      obtain ⟨H4, e4', s4, f4⟩ := gen _ hz (.lst (Cmb.natT l0))
      rw [e4']
      clear e4'
      refine gName_by ?_
      have s24 := sT.trans s4
      have f4 : H4 z = some (.lst (natV l0)) := f4
      refine ⟨_, rfl, z, fun j => ((lotW l0 j : Nat) : Int), l0.length, 2, rfl, SqL.of (by rw [f4, natV_lot l0]), by omega, by omega, fun D hD => ?_⟩
      have s02 : Same H H4 := s2.trans s24
      have hJ4 := s24 _ _ hJ2
      refine lc_it (Cml.walk_comb (r := 2)) (fun i H' => Same H4 H' ∧ ∃ bs : List Addr, H' D = some (.lst (bs.map V.ref)) ∧ bs.length = i ∧ ∀ (a : Nat) (b : Addr) (c : Nat × Nat), bs[a]? = some b → ((cplTo l0.length l0.length).map (prsP kss kts l0))[a]? = some c → H' b = some (.tup (pairT c)))
        ⟨same_new hD, [], upd_same, rfl, by simp⟩ (fun _ _ _ _ => trivial) ?_ ?_
      · rintro k y H5 H6 hk ⟨s5, bs, hb, lb, rows⟩ ⟨T2, c, rfl, nT2, ec, rfl⟩
        obtain ⟨cp, ecp, rfl⟩ := pair_at ec
        obtain ⟨c1, c2, c3⟩ := (cpl_mem _ _ _ _).mp (List.mem_of_getElem? ecp)
        have sT2 := same_new (o := .tup (Cml.natT (fun j => ((lotW l0 j : Nat) : Int)) [cp.1, cp.2])) nT2
        refine ⟨T2, [.int ((lotW l0 cp.1 : Nat) : Int), .int ((lotW l0 cp.2 : Nat) : Int)], rfl, SqT.of upd_same, rfl, _, _, rfl, _, _, rfl, rfl, ?_⟩
        have s6 := s5.trans sT2
        have hb6 := sT2 _ _ hb
        have rows6 : ∀ (a : Nat) (b : Addr) (c : Nat × Nat), bs[a]? = some b → ((cplTo l0.length l0.length).map (prsP kss kts l0))[a]? = some c → _ := fun a b c h1 h2 => sT2 _ _ (rows a b c h1 h2)
        generalize upd H5 T2 (.tup (Cml.natT (fun j => ((lotW l0 j : Nat) : Int)) [cp.1, cp.2])) = H7 at s6 hb6 rows6
        refine ⟨rfl, yes_of ?_⟩
        have w1 := LO.below (show cp.1 < l0.length by omega)
        have w2 := LO.below c3
        have ne := LO.ne (show cp.1 < l0.length by omega) c3 (by omega)
        have g1 : DGet H7 d (.int ((lotW l0 cp.1 : Nat) : Int)) (some (.int ((beatN kss (lotW l0 cp.1) : Nat) : Int))) := by
          have := getU (up_id n1000) ((s02.trans s6) _ _ hd) w1
          rw [beatF_id n1000 w1] at this
          exact this
        have g2 : DGet H7 e (.int ((lotW l0 cp.1 : Nat) : Int)) (some (.int ((beatN kts (lotW l0 cp.1) : Nat) : Int))) := by
          have := getU (up_id (n := kts.length) (by omega)) ((s02.trans s6) _ _ he) (show lotW l0 cp.1 < kts.length by omega)
          rw [beatF_id (by omega) (by omega)] at this
          exact this
        refine ⟨_, rfl, _, rfl, d, _, rfl, g1, _, rfl, _, _, rfl, rfl, _, _, rfl, rfl, ?_⟩
        refine ⟨_, rfl, _, rfl, e, _, rfl, g2, _, rfl, _, _, rfl, rfl, _, _, rfl, rfl, ?_⟩
        refine ⟨(by show 2 ≤ sizeLine; decide), fun p2 hp2 => ?_⟩
        have eb1 : (fun a b : Nat => a &&& b) ((fun a p : Nat => a >>> p) (beatN kss (lotW l0 cp.1)) (lotW l0 cp.2)) 1 = bitI kss (lotW l0 cp.1) (lotW l0 cp.2) := bit_at w1 w2 ne
        have eb2 : (fun a b : Nat => a &&& b) ((fun a p : Nat => a >>> p) (beatN kts (lotW l0 cp.1)) (lotW l0 cp.2)) 1 = bitI kts (lotW l0 cp.1) (lotW l0 cp.2) := bit_at (by omega) (by omega) ne
        rw [eb1, eb2]
        have sP := same_new (o := .tup [.int ((bitI kss (lotW l0 cp.1) (lotW l0 cp.2) : Nat) : Int), .int ((bitI kts (lotW l0 cp.1) (lotW l0 cp.2) : Nat) : Int)]) hp2
        have p2D : p2 ≠ D := fun q => by rw [q, hb6] at hp2; cases hp2
        refine ⟨bs.map V.ref, sP _ _ hb6, by rw [List.length_map, lb, sizeLine_eq]; have := cpl_len l0.length l0.length; have h2 := choices_two_len l0.length; have : l0.length * l0.length ≤ 4 * 4 := Nat.mul_le_mul (by omega) (by omega); omega, fun b o e => ?_, bs ++ [p2], by rw [upd_same, List.map_append]; rfl, by rw [List.length_append, lb]; rfl, fun a b c h1 h2 => ?_⟩
        · rw [upd_ne (ne_of_none e hD)]
          exact sP _ _ (s6 _ _ e)
        · by_cases c : a < bs.length
          · rw [List.getElem?_append_left c] at h1
            have hr := rows6 a b _ h1 h2
            rw [upd_ne (fun q => by rw [q, hb6] at hr; cases hr)]
            exact sP _ _ hr
          · obtain rfl : a = bs.length := by
              have := (List.getElem?_eq_some_iff.mp h1).1
              rw [List.length_append, List.length_singleton] at this
              omega
            rw [List.getElem?_concat_length] at h1
            cases h1
            rw [lb, List.getElem?_map, ecp] at h2
            cases h2
            rw [upd_ne p2D, upd_same]
            rfl
      · rintro H5 ⟨s5, bs, hb, lb, rows⟩
        refine ⟨D, _, rfl, SqL.of hb, fun K0 hK0 => ?_⟩
        obtain ⟨H6, e6', s6, f6⟩ := gen H5 hK0 (.tup (bs.map V.ref))
        rw [e6']
        clear e6'
        refine gName_by ?_
        have s26 : Same H2 H6 := s24.trans (s5.trans s6)
        have s06 : Same H H6 := s2.trans s26
        have hz6 : H6 z = some (.lst (natV l0)) := (s5.trans s6) _ _ f4
        have nz : H z = none := (s2.trans sT).free hz
        have hJ6 := s26 _ _ hJ2
        have kn6 : keysN (GL.hid H6 J) kvs := kn.same (hid_mono s26)
        have notJ : ∀ {b : Addr} {xs : List V}, H6 b = some (.tup xs) → b ≠ J := fun {b xs} h q => by
          rw [q, hJ6] at h
          cases h
        have nk6 : NK (GL.hid H6 J) (.ref K0) (keyP kss kts l0) := key_nk (cs := (cplTo l0.length l0.length).map (prsP kss kts l0)) (hid_in f6 (notJ f6)) (by rw [lb, List.length_map]; exact choices_two_len _) fun a b c h1 h2 => by
          have := s6 _ _ (rows a b c h1 h2)
          exact hid_in this (notJ this)
        have dep := keyC_depth ((cplTo l0.length l0.length).map (prsP kss kts l0))
        have LO2 : LotOf kts.length l0 := by rw [l]; exact LO
        have hsz : i < sizeLine := by
          have h1 : (Cmb.choices kss.length m).length ≤ sizeLine - 1 := chs_small n40 m4
          have := sizeLine_eq
          omega
        dsimp only
        refine seq_by (fun σ' H' => ∃ (kvs' : List NE) (b : Bool), σ' = [some (.ref d), some (.ref e), some (.int ((m : Nat) : Int)), some (.ref J), some (.ref T0), some (.ref z), some (.ref K0), none, none] ∧ Same H H' ∧ H' z = some (.lst (natV l0)) ∧ NK (GL.hid H' J) (.ref K0) (keyP kss kts l0) ∧ H' J = some (ndO P w J kvs') ∧ keysN (GL.hid H' J) kvs' ∧ (kvs'.map (·.1)).Nodup ∧ kvs'.length ≤ i + 1 ∧ valN kvs' (keyP kss kts l0) = some (.bl b) ∧ (b = true ↔ JK (amongK kss l0) (amongK kts l0)) ∧ (b = true → ∀ p ∈ kvs', ∃ l ∈ Cmb.choices kss.length m, p.1 = keyP kss kts l ∧ p.2.2 = .bl true ∧ JK (amongK kss l) (amongK kts l))) (fun nx hnx => ?_) ?_
        · refine ⟨_, rfl, _, rfl, J, K0, kvs, keyP kss kts l0, rfl, rfl, hJ6, kn6.same hid_le, NK.same hid_le _ _ nk6, dep, _, rfl, ?_⟩
          cases ev : valN kvs (keyP kss kts l0) with
          | some v =>
            obtain ⟨p, hp, ep, rfl⟩ := valN_mem ev
            obtain ⟨l1, hl1, ek, et, J1⟩ := ent p hp
            have LO1 : LotOf kss.length l1 := ⟨combs_up kss.length m kss.length 0 (Nat.zero_add _) l1 hl1, fun x hx => Cmb.choices_low hl1 x hx⟩
            obtain ⟨a1, a2⟩ := key_among fine fine2 l LO1 LO (by rw [Cmb.choices_len hl1, ll]) (ek.symm.trans ep)
            rw [a1, a2] at J1
            rw [et] at ev
            refine iteF (hnx _ _ ⟨kvs, true, rfl, s06, hz6, nk6, hJ6, kn6, nd, by omega, ev, ⟨fun _ => J1, fun _ => rfl⟩, fun _ => ent⟩)
          | none =>
            refine iteT ?_
            refine ⟨_, rfl, _, rfl, d, z, kss, l0, rfl, s06 _ _ hd, fine, n40, hz6, LO, fun e1 H7 s7 n7 h7 => ?_⟩
            refine ⟨_, rfl, _, rfl, e, z, kts, l0, rfl, s7 _ _ (s06 _ _ he), fine2, by omega, s7 _ _ hz6, LO2, fun e2 H8 s8 n8 h8 => ?_⟩
            refine ⟨e1, e2, amongK kss l0, amongK kts l0, lotW l0, rfl, by rw [among_len]; exact s8 _ _ h7, by rw [among_len]; exact h8, among_fine fine LO, among_fine fine2 LO2, by rw [among_len, among_len], by rw [among_len]; omega, by rw [among_len]; exact LO.ups n1000, fun b H9 s9 hb => ?_⟩
            have s69 := s7.trans (s8.trans s9)
            have new := valN_none.mp ev
            have kn9 : keysN (GL.hid H9 J) kvs := kn6.same (hid_mono s69)
            have nk9 := NK.same (hid_mono s69) _ _ nk6
            refine ⟨_, rfl, _, rfl, J, K0, kvs, keyP kss kts l0, rfl, rfl, s69 _ _ hJ6, kn9.same hid_le, NK.same hid_le _ _ nk9, dep, new, by omega, ?_⟩
            refine hnx _ _ ⟨kvs ++ [(keyP kss kts l0, K0, .bl b)], b, rfl, fun b' o e' => by rw [upd_ne (ne_of_none e' hJ)]; exact s69 _ _ (s06 _ _ e'), ?_, by rw [hid_upd]; exact nk9, upd_same, ?_, ?_, by rw [List.length_append]; show kvs.length + 1 ≤ i + 1; omega, ?_, hb, fun tb p hp => ?_⟩
            · rw [upd_ne (fun q => by rw [q, hJ6] at hz6; cases hz6)]
              exact s69 _ _ hz6
            · rw [hid_upd]
              intro p hp
              rcases List.mem_append.mp hp with y | y
              · exact kn9 p y
              · rw [List.mem_singleton] at y
                subst y
                exact ⟨nk9, dep⟩
            · rw [List.map_append, List.nodup_append]
              refine ⟨nd, by simp, fun x hx y hy => ?_⟩
              rintro rfl
              rw [List.map_singleton, List.mem_singleton] at hy
              rw [hy] at hx
              exact new hx
            · rw [valN_app, ev, if_pos rfl]
              rfl
            · rcases List.mem_append.mp hp with y | y
              · exact ent p y
              · rw [List.mem_singleton] at y
                subst y
                exact ⟨l0, lm, rfl, by rw [tb], hb.mp tb⟩
        rintro σ H7 ⟨kvs', b, rfl, s7, hz7, nk7, hJ7, kn7, nd7, len7, val7, hb7, ent7⟩
        refine ⟨_, rfl, _, rfl, J, K0, kvs', keyP kss kts l0, .bl b, rfl, rfl, hJ7, kn7.same hid_le, NK.same hid_le _ _ nk7, dep, val7, b, rfl, ?_⟩
        cases b with
        | true =>
          refine iteF ?_
          refine ⟨kvs', _, _, _, rfl, s7, hJ7, kn7, nd7, len7, ent7 rfl, fun j l' hj hl' => ?_⟩
          by_cases c : j < i
          · exact old j l' c hl'
          · obtain rfl : j = i := by omega
            rw [el] at hl'
            cases hl'
            exact hb7.mp rfl
        | false =>
          refine iteT ⟨_, rfl, ?_⟩
          exact qp z H7 l0 i s7 nz hz7 el (fun y => by have := hb7.mpr y; cases this) old
    · rintro σ H2 ⟨kvs, e4, e5, e6, rfl, s2, hJ2, kn, nd, len, ent, old⟩
      refine qn _ s2 fun l hl => ?_
      obtain ⟨j, hj⟩ := List.mem_iff_getElem?.mp hl
      exact old j l (List.getElem?_eq_some_iff.mp hj).1 hj
end
end K58

namespace K58
open PySem PySem.Spec PyProof.Rows
open L2 hiding spCell
open GL
def spLCpl : Sp := fun vs H Q _ => ∃ (c : Addr) (rs : List Addr) (kss : List (List Int)), vs = [.ref c] ∧ Tab H c rs kss ∧ Fine 2 kss ∧ 1 ≤ kss.length ∧ kss.length ≤ 40 ∧ ∀ (p : Addr) (ts : List (Addr × Nat × Nat)) (H' : Hp), Same H H' → H p = none → Cpls H H' p ts → ts.map (·.2) = cplL kss → Q (.ref p) H'
def spJoinedL : Sp := fun vs H Q _ => ∃ (a b : Addr) (rs rs' : List Addr) (kss kts : List (List Int)), vs = [.ref a, .ref b] ∧ Tab H a rs kss ∧ Tab H b rs' kts ∧ Fine 2 kss ∧ Fine 2 kts ∧ 1 ≤ kss.length ∧ kts.length = kss.length ∧ kss.length ≤ 40 ∧ ∀ (v : Bool) (H' : Hp), Same H H' → (v = true ↔ JK kss kts) → Q (.bl v) H'
/-- the first lot of m people on which two leagues part -/
def PartAt (kss kts : List (List Int)) (m : Nat) (l : List Nat) : Prop := ∃ i : Nat, (Cmb.choices kss.length m)[i]? = some l ∧ ¬ JK (amongK kss l) (amongK kts l) ∧ ∀ (j : Nat) (l' : List Nat), j < i → (Cmb.choices kss.length m)[j]? = some l' → JK (amongK kss l') (amongK kts l')
def AllJ (kss kts : List (List Int)) (m : Nat) : Prop := ∀ l ∈ Cmb.choices kss.length m, JK (amongK kss l) (amongK kts l)
def spPartP : Sp := fun vs H Q _ => ∃ (a b : Addr) (rs rs' : List Addr) (kss kts : List (List Int)), vs = [.ref a, .ref b] ∧ Tab H a rs kss ∧ Tab H b rs' kts ∧ Fine 2 kss ∧ Fine 2 kts ∧ 1 ≤ kss.length ∧ kts.length = kss.length ∧ kss.length ≤ 40 ∧
  (JK kss kts → ∀ H', Same H H' → Q .non H') ∧ ∀ (p : Addr) (l : List Nat) (H' : Hp), Same H H' → H p = none → H' p = some (.lst (natV l)) → (PartAt kss kts 3 l ∨ (AllJ kss kts 3 ∧ PartAt kss kts 4 l)) → ¬ JK kss kts → Q (.ref p) H'
theorem beaten_id {kss : List (List Int)} (h : kss.length ≤ 1000) : dD kss.length (beatN kss) = dG kss.length (fun p => p) (beatF (fun p => p) kss) := dG_congr (g := fun p => p) fun i hi => (beatF_id h hi).symm
theorem lot_choices {n m : Nat} {l : List Nat} : l ∈ Cmb.choices n m ↔ LotOf n l ∧ l.length = m := by
  constructor
  · intro h
    exact ⟨⟨combs_up n m n 0 (Nat.zero_add _) l h, fun x hx => Cmb.choices_low h x hx⟩, Cmb.choices_len h⟩
  · rintro ⟨h1, h2⟩
    exact choices_in h2 h1.up h1.low
theorem all_sub {kss kts : List (List Int)} {m : Nat} : AllJ kss kts m ↔ Sub kss.length m kss kts := ⟨fun h l L e => h l (lot_choices.mpr ⟨L, e⟩), fun h l hl => h l (lot_choices.mp hl).1 (lot_choices.mp hl).2⟩
section
variable {P : Program} {w : World} {K : PySem.W.Frag} {mg : Str → Option Value} {base : Heap}
abbrev sLCpl : Stmt := topS 24
abbrev nLCpl : List Str := ["league", "behind", "person", "after"]
theorem scLCpl : FnScope nLCpl ["league"] (defScope sLCpl) := ⟨rfl, rfl, rfl, by decide +kernel, rfl, by decide +kernel, by decide +kernel⟩
theorem ok_lCpl {f : Addr} {fd : FuncData} (F : Fun K "league_couples" "league_couples" sLCpl f fd) (T : Bi mg) (Ucheckleague : Use P w K mg base "check_league" ["league"] (spChkL K) 6) (Ubeatenin : Use P w K mg base "beaten_in" ["league"] spBeaten 1) (Unextinrows : Use P w K mg base "next_in_rows" ["beaten"] spNextF 1) : FnOk P w K mg base CX0 7 f fd ["league"] spLCpl := by
  refine F.ok scLCpl (fun vs H Q E h => ?_) (fun cdv A outer s H vs Q E hr h => ?_)
  · obtain ⟨c, rs, kss, rfl, _⟩ := h
    rfl
  · obtain ⟨c, rs, kss, rfl, t, fine, one, n40, q⟩ := h
    refine ⟨_, (pss_cons (ps_expr (pe_use Ucheckleague hr (by rfl) (pa_cons (pv 0) pa_nil)))
      (pss_cons (ps_set (i := 1) scLCpl.nd rfl (Or.inl rfl) (pe_use Unextinrows (hr.mono (by decide)) (by rfl) (pa_cons (pe_use Ubeatenin (hr.mono (by decide)) (by rfl) (pa_cons (pv 0) pa_nil)) pa_nil)))
      (pss_one (ps_ret (pe_callB cr_sortedPO (by rfl) T.sorted (by decide +kernel) (pa_cons (pe_lock (pe_lc (own := [("person", 2), ("after", 3)]) (g := (gTup K 2 (gCons (gName 2) (gCons (gName 3) gNil)))) (tt := tYes) (te := (tTup (tCons (tCB rMin2 (tCons (tVar 2) (tCons (tVar 3) tNil))) (tCons (tCB rMax2 (tCons (tVar 2) (tCons (tVar 3) tNil))) tNil)))) rfl scLCpl.nd (pi_items (pv 1))
            (blkOk_by (N := nLCpl) (sc := (defScope sLCpl)) (by decide +kernel)) (fun _ _ _ _ _ => (pg_tup rfl (pgs_cons (pg_name (i := 2) scLCpl.nd rfl (Or.inl rfl)) (pgs_cons (pg_name (i := 3) scLCpl.nd rfl (Or.inl rfl)) pgs_nil)))) (fun _ _ _ _ _ => by exact pts_nil)
            (fun _ _ _ _ _ => by exact (pe_tup (pa_cons (pe_callB (call_min2 rfl) (by rfl) T.min (by decide +kernel) (pa_cons (pv 2) (pa_cons (pv 3) pa_nil))) (pa_cons (pe_callB (call_max2 rfl) (by rfl) T.max (by decide +kernel) (pa_cons (pv 2) (pa_cons (pv 3) pa_nil))) pa_nil)))))) pa_nil)))))), ?_⟩
    refine ⟨_, rfl, .ref c, tabP kss, rfl, t.dt, Fine.comp fine one n40, fun H1 s1 => ?_⟩
    refine ⟨_, rfl, c, rs, kss, rfl, t.same s1, fine, n40, fun d H2 s2 nd hd => ?_⟩
    have n1000 : kss.length ≤ 1000 := by omega
    refine ⟨d, kss, fun p => p, rfl, by rw [hd, beaten_id n1000], fine, n40, up_id n1000, fun e H3 s3 ne he => ?_⟩
    rw [nextsW_id] at he
    refine ⟨e, _, he, trivial, fun od => ?_⟩
    refine ⟨_, rfl, e, od, _, rfl, upd_same, fun D hD => ?_⟩
    obtain ⟨hD0, De⟩ := lock_free hD
    have len : (dP (nextsTo kss kss.length)).length = (nextsTo kss kss.length).length := by unfold dP; rw [List.length_map]
    have nl := nexts_len kss kss.length
    have s13 := s2.trans s3
    refine lc_it walk_items (fun i H' => Same (upd H3 e (.frz od (.dK (dP (nextsTo kss kss.length))))) H' ∧ ∃ ts, Cpls H3 H' D ts ∧ ts.map (·.2) = ((nextsTo kss kss.length).take i).map lowHigh) ⟨same_new hD, [], ⟨upd_same, by simp, by simp⟩, rfl⟩ (fun _ _ _ z => z.1 _ _ upd_same) ?_ ?_
    · rintro i x H4 H5 hi ⟨s4, ts, R, ets⟩ ⟨T1, x1, x2, rfl, nT, rfl, g1, g2⟩
      rw [len] at hi
      obtain ⟨⟨p, r⟩, ec⟩ : ∃ pr, (nextsTo kss kss.length)[i]? = some pr := ⟨_, List.getElem?_eq_getElem hi⟩
      have dg : (dP (nextsTo kss kss.length))[i]? = some ((Sum.inl ((p : Nat) : Int) : Key), V.int ((r : Nat) : Int)) := by
        unfold dP
        rw [List.getElem?_map, ec]
        rfl
      obtain rfl : x1 = .int ((p : Nat) : Int) := by
        have z : Option.map (fun kv : Key × V => kV kv.1) (dP (nextsTo kss kss.length))[i]? = some x1 := g1
        rw [dg] at z
        exact (Option.some.inj z).symm
      obtain rfl : x2 = .int ((r : Nat) : Int) := by
        have z : Option.map Prod.snd (dP (nextsTo kss kss.length))[i]? = some x2 := g2
        rw [dg] at z
        exact (Option.some.inj z).symm
      have sT := same_new (o := .tup [.int ((p : Nat) : Int), .int ((r : Nat) : Int)]) nT
      refine ⟨T1, [.int ((p : Nat) : Int), .int ((r : Nat) : Int)], rfl, SqT.of upd_same, rfl, _, _, rfl, _, _, rfl, rfl, ?_⟩
      have s5 := s4.trans sT
      have R5 := R.same sT
      generalize upd H4 T1 (.tup [.int ((p : Nat) : Int), .int ((r : Nat) : Int)]) = H6 at s5 R5
      refine ⟨rfl, yes_of ?_⟩
      refine ⟨_, rfl, _, rfl, _, _, rfl, _, rfl, _, rfl, _, _, rfl, (by show 2 ≤ sizeLine; decide), fun u hu => ?_⟩
      have ev : ([V.int (if ((r : Nat) : Int) < ((p : Nat) : Int) then ((r : Nat) : Int) else ((p : Nat) : Int)), V.int (if ((r : Nat) : Int) > ((p : Nat) : Int) then ((r : Nat) : Int) else ((p : Nat) : Int))] : List V) = pairT (lowHigh (p, r)) := by
        unfold pairT lowHigh
        dsimp only
        congr 2
        · split <;> omega
        · congr 1
          split <;> omega
      rw [ev]
      obtain ⟨H7, e7, s7, f7⟩ := gen H6 hu (.tup (pairT (lowHigh (p, r))))
      rw [e7]
      clear e7
      have hu3 : H3 u = none := by
        by_cases c : u = e
        · rw [c, s5 _ _ upd_same] at hu
          cases hu
        · cases z : H3 u with
          | none => rfl
          | some o =>
            rw [s5 u o (by rw [upd_ne c]; exact z)] at hu
            cases hu
      refine ⟨_, s7 _ _ R5.top, ?_, fun b o e' => ?_, _, R5.push s7 hu hu3 f7, ?_⟩
      · have := congrArg List.length ets
        rw [List.length_map, List.length_map, List.length_take] at this
        rw [List.length_map]
        exact small1000 (by omega)
      · rw [upd_ne (ne_of_none e' hD)]
        exact s7 _ _ (s5 b o e')
      · rw [List.map_append, ets, List.take_add_one, ec, List.map_append]
        rfl
    · rintro H4 ⟨s4, ts, R, ets⟩
      rw [len, List.take_length] at ets
      refine ⟨s4 _ _ upd_same, ?_⟩
      have s5 := unlock he s4
      have eo : e ≠ D := De.symm
      have R5 : Cpls H3 (upd H4 e (.dK (dP (nextsTo kss kss.length)))) D ts := ⟨by rw [upd_ne De]; exact R.top, fun t ht => by
        rw [upd_ne (fun z => by
          have := R.new t ht
          rw [show t.1 = e from z, he] at this
          cases this)]
        exact R.row t ht, R.new⟩
      generalize upd H4 e (.dK (dP (nextsTo kss kss.length))) = H6 at s5 R5
      refine sortCpl (R5.back (s1.trans s13)) (by rw [ets]; exact nexts_nodup fine) fun us p pm so hp R7 => ?_
      have s6 := (s1.trans s13).trans s5
      refine q p us _ (s6.trans (same_new hp)) (s6.free hp) R7 (lex_ext so (cplL_sorted kss) fun j => ?_)
      rw [(pm.map (·.2)).mem_iff, ets]
      exact nexts_couples fine j
abbrev sJoinedL : Stmt := topS 25
abbrev nJoinedL : List Str := ["one", "other"]
theorem scJoinedL : FnScope nJoinedL ["one", "other"] (defScope sJoinedL) := ⟨rfl, rfl, rfl, by decide +kernel, rfl, by decide +kernel, by decide +kernel⟩
theorem ok_joinedL {f : Addr} {fd : FuncData} (F : Fun K "are_joined_leagues" "are_joined_leagues" sJoinedL f fd) (T : Bi mg) (Ucheckleagues : Use P w K mg base "check_leagues" ["one", "other"] spChkLs 7) (Ubeatenin : Use P w K mg base "beaten_in" ["league"] spBeaten 1) (Uareofoneclass : Use P w K mg base "are_of_one_class" ["beaten", "others"] spOneF 3) : FnOk P w K mg base CX0 8 f fd ["one", "other"] spJoinedL := by
  refine F.ok scJoinedL (fun vs H Q E h => ?_) (fun cdv A outer s H vs Q E hr h => ?_)
  · obtain ⟨a, b, rs, rs', kss, kts, rfl, _⟩ := h
    rfl
  · obtain ⟨a, b, rs, rs', kss, kts, rfl, t, t2, fine, fine2, one, l, n40, q⟩ := h
    refine ⟨_, (pss_cons (ps_expr (pe_use Ucheckleagues hr (by rfl) (pa_cons (pv 0) (pa_cons (pv 1) pa_nil))))
      (pss_one (ps_ret (pe_use Uareofoneclass (hr.mono (by decide)) (by rfl) (pa_cons (pe_use Ubeatenin (hr.mono (by decide)) (by rfl) (pa_cons (pv 0) pa_nil)) (pa_cons (pe_use Ubeatenin (hr.mono (by decide)) (by rfl) (pa_cons (pv 1) pa_nil)) pa_nil)))))), ?_⟩
    have n1000 : kss.length ≤ 1000 := by omega
    refine ⟨_, rfl, _, rfl, a, b, rs, rs', kss, kts, rfl, t, t2, fine, fine2, one, l, n40, fun H1 s1 => ?_⟩
    refine ⟨_, rfl, a, rs, kss, rfl, t.same s1, fine, n40, fun d H2 s2 nd hd => ?_⟩
    refine ⟨_, rfl, b, rs', kts, rfl, t2.same (s1.trans s2), fine2, by omega, fun e H3 s3 ne he => ?_⟩
    refine ⟨d, e, kss, kts, fun p => p, rfl, by rw [s3 _ _ hd, beaten_id n1000], by rw [he, beaten_id (by omega)], fine, fine2, l, n40, up_id n1000, fun v H4 s4 hv => ?_⟩
    exact q v H4 (s1.trans (s2.trans (s3.trans s4))) hv
abbrev sPartP : Stmt := topS 26
abbrev nPartP : List Str := ["one", "other", "beaten", "others", "three"]
theorem scPartP : FnScope nPartP ["one", "other"] (defScope sPartP) := ⟨rfl, rfl, rfl, by decide +kernel, rfl, by decide +kernel, by decide +kernel⟩
theorem ok_partP {f : Addr} {fd : FuncData} (F : Fun K "parting_people" "parting_people" sPartP f fd) (T : Bi mg) (Ucheckleagues : Use P w K mg base "check_leagues" ["one", "other"] spChkLs 7) (Ubeatenin : Use P w K mg base "beaten_in" ["league"] spBeaten 1) (Uareofoneclass : Use P w K mg base "are_of_one_class" ["beaten", "others"] spOneF 3) (Ufirstpartinglot : Use P w K mg base "first_parting_lot" ["beaten", "others", "many"] spFirstQ 4) : FnOk P w K mg base CX0 8 f fd ["one", "other"] spPartP := by
  refine F.ok scPartP (fun vs H Q E h => ?_) (fun cdv A outer s H vs Q E hr h => ?_)
  · obtain ⟨a, b, rs, rs', kss, kts, rfl, _⟩ := h
    rfl
  · obtain ⟨a, b, rs, rs', kss, kts, rfl, t, t2, fine, fine2, one, l, n40, qn, qp⟩ := h
    refine ⟨_, (pss_cons (ps_expr (pe_use Ucheckleagues hr (by rfl) (pa_cons (pv 0) (pa_cons (pv 1) pa_nil))))
      (pss_cons (ps_par (i := 2) (j := 3) rfl scPartP.nd rfl rfl (by decide) rfl rfl (pa_cons (pe_use Ubeatenin (hr.mono (by decide)) (by rfl) (pa_cons (pv 0) pa_nil)) (pa_cons (pe_use Ubeatenin (hr.mono (by decide)) (by rfl) (pa_cons (pv 1) pa_nil)) pa_nil)) (by rfl))
      (pss_cons (ps_if (pt_val (pe_use Uareofoneclass (hr.mono (by decide)) (by rfl) (pa_cons (pv 2) (pa_cons (pv 3) pa_nil))))
        (pss_one (ps_ret pe_non)) pss_nil)
      (pss_cons (ps_set (i := 4) scPartP.nd rfl (Or.inl rfl) (pe_use Ufirstpartinglot (hr.mono (by decide)) (by rfl) (pa_cons (pv 2) (pa_cons (pv 3) (pa_cons pe_int pa_nil)))))
      (pss_one (ps_ret (pe_ifExp (pt_cmpR op_isN (pv 4) pe_non (nomark _)) (pe_use Ufirstpartinglot (hr.mono (by decide)) (by rfl) (pa_cons (pv 2) (pa_cons (pv 3) (pa_cons pe_int pa_nil)))) (pv 4)))))))), ?_⟩
    have n1000 : kss.length ≤ 1000 := by omega
    refine ⟨_, rfl, _, rfl, a, b, rs, rs', kss, kts, rfl, t, t2, fine, fine2, one, l, n40, fun H1 s1 => ?_⟩
    refine ⟨_, rfl, a, rs, kss, rfl, t.same s1, fine, n40, fun d H2 s2 nd hd => ?_⟩
    refine ⟨_, rfl, b, rs', kts, rfl, t2.same (s1.trans s2), fine2, by omega, fun e H3 s3 ne he => ⟨_, _, rfl, ?_⟩⟩
    rw [beaten_id n1000] at hd
    rw [beaten_id (by omega)] at he
    have s13 := s1.trans (s2.trans s3)
    have hd3 := s3 _ _ hd
    refine ⟨_, rfl, _, rfl, d, e, kss, kts, fun p => p, rfl, hd3, he, fine, fine2, l, n40, up_id n1000, fun v H4 s4 hv => ⟨v, rfl, ?_⟩⟩
    have s14 := s13.trans s4
    cases v with
    | true => exact iteT (qn (hv.mp rfl) H4 s14)
    | false =>
      have no : ¬ JK kss kts := fun z => by
        have := hv.mpr z
        cases this
      refine iteF ?_
      refine ⟨_, rfl, _, rfl, d, e, kss, kts, 3, rfl, s4 _ _ hd3, s4 _ _ he, fine, fine2, l, n40, by decide, fun H5 s5 all3 => ?_, fun p H5 l3 i s5 np hp el nj old => ?_⟩
      · refine gName_by ?_
        refine ⟨_, rfl, rfl, _, rfl, ?_⟩
        refine iteT ?_
        refine ⟨_, rfl, _, rfl, d, e, kss, kts, 4, rfl, s5 _ _ (s4 _ _ hd3), s5 _ _ (s4 _ _ he), fine, fine2, l, n40, by decide, fun H6 s6 all4 => ?_, fun p H6 l4 i s6 np hp el nj old => ?_⟩
        · exact absurd ((fours fine fine2 l).mpr ⟨all_sub.mp all3, all_sub.mp all4⟩) no
        · exact qp p l4 H6 (s14.trans (s5.trans s6)) ((s14.trans s5).free np) hp (.inr ⟨all3, i, el, nj, old⟩) no
      · refine gName_by ?_
        refine ⟨_, rfl, rfl, _, rfl, ?_⟩
        refine iteF ?_
        exact ⟨_, rfl, qp p l3 H5 (s14.trans s5) (s14.free np) hp (.inl ⟨i, el, nj, old⟩) no⟩
end
end K58

namespace K58
open PySem PySem.Spec PyProof.Rows
open L2 hiding spCell
open GL
def spOrdW : Sp := fun vs H Q _ => ∃ (g L : Addr) (l : List Nat) (n : Nat), vs = [.ref g, .ref L] ∧ H L = some (.lst (natV l)) ∧ l.length ≤ 40 ∧ Gen H g (n + 5 * l.length) ∧ ∀ (o : Addr) (H' : Hp) (os : List Nat), But g H H' → H o = none → Gen H' g n → H' o = some (.lst (natV os)) → os.Perm l → Q (.ref o) H'
def spWalkW (K : PySem.W.Frag) : Sp := fun vs H Q _ => ∃ (a : Addr) (rs : List Addr) (kss : List (List Int)) (g : Addr) (o : HO), vs = [.ref a] ∧ H g = some o ∧ a ≠ g ∧ g ∉ rs ∧ Tab H a rs kss ∧ Fine 2 kss ∧ 1 ≤ kss.length ∧ kss.length ≤ 5 ∧
  ∀ (p D : Addr) (q : V) (qs : List (List (List Int))) (kvs : List (Key × V)) (H' : Hp), Same H H' → H' p = some (.lst [q, .ref D]) → (∀ z, z ∈ qs ↔ JK kss z) → qs.length ≤ 1024 → Dt K (hid H' g) q (.list (qs.map tabP)) → H' D = some (.dK kvs) →
    (∀ z, Fine 2 z → z.length = kss.length → (JK kss z → valV kvs (Sum.inr (txtK z)) = some (.int ((hamK kss z : Nat) : Int))) ∧ (¬ JK kss z → valV kvs (Sum.inr (txtK z)) = none)) → Q (.ref p) H'
section
variable {P : Program} {w : World} {K : PySem.W.Frag} {mg : Str → Option Value} {base : Heap}
abbrev sOrdW : Stmt := topS 45
abbrev nOrdW : List Str := ["_law_generator_here", "_law_people", "_law_left", "_law_order"]
theorem scOrdW : FnScope nOrdW ["_law_generator_here", "_law_people"] (defScope sOrdW) := ⟨rfl, rfl, rfl, by decide +kernel, rfl, by decide +kernel, by decide +kernel⟩
theorem ok_ordW {f : Addr} {fd : FuncData} (F : Fun K "_law_orders" "_law_orders" sOrdW f fd) (T : Bi mg) (ULrandom : Use P w K mg base "_law_random" ["_law_generator_here", "_law_bound"] spRandom 2) : FnOk P w K mg base CX0 3 f fd ["_law_generator_here", "_law_people"] spOrdW := by
  refine F.ok scOrdW (fun vs H Q E h => ?_) (fun cdv A outer s H vs Q E hr h => ?_)
  · obtain ⟨g, L, l, n, rfl, _⟩ := h
    rfl
  · obtain ⟨g, L, l, n, rfl, hL, l40, G, q⟩ := h
    refine ⟨_, (pss_cons (ps_par (i := 2) (j := 3) rfl scOrdW.nd rfl rfl (by decide) rfl rfl (pa_cons (pe_callTy call_lstL (by rfl) T.list PyProof.Rows.boot_list (pa_cons (pv 1) pa_nil)) (pa_cons (pe_lst pa_nil) pa_nil)) (by rfl))
      (pss_cons (ps_while PassesOwn.never (pt_cmpR (op_neNil hr.units) (pv 2) (pe_lst pa_nil) (nomark _))
        (pss_one (ps_expr (pe_bm PySem.F.plainAttrs_list PySem.F.slot_list_append PySem.F.type_list_append mt_append (pv 3) (pa_cons (pe_bm PySem.F.plainAttrs_list PySem.F.slot_list_pop PySem.F.type_list_pop mt_popAt (pv 2) (pa_cons (pe_use ULrandom hr (by rfl) (pa_cons (pv 0) (pa_cons (pe_callB call_len_seq (by rfl) T.len PySem.boot_len (pa_cons (pv 2) pa_nil)) pa_nil))) pa_nil)) pa_nil)))))
      (pss_one (ps_ret (pv 3))))), ?_⟩
    refine ⟨_, rfl, L, _, rfl, SqL.of hL, fun l0 hl => ⟨Nat.zero_le _, fun d hd => ⟨_, _, rfl, ?_⟩⟩⟩
    have ld : l0 ≠ d := fun z => by
      rw [← z, upd_same] at hd
      cases hd
    have hd0 : H d = none := (same_new hl).free hd
    have gl : g ≠ l0 := G.ne hl
    have gd : g ≠ d := G.ne hd0
    refine while_ws l.length (fun i σ H' => ∃ (Lx Fd : List Nat), σ = [some (.ref g), some (.ref L), some (.ref l0), some (.ref d)] ∧ But g H H' ∧ H' l0 = some (.lst (natV Lx)) ∧ H' d = some (.lst (natV Fd)) ∧ (Fd ++ Lx).Perm l ∧ Fd.length = i ∧ GL.Gen H' g (n + 5 * (l.length - i)))
      ⟨l, [], rfl, (But.new hl).trans (But.new hd), by rw [upd_ne ld, upd_same], upd_same, .refl _, rfl, (G.new hl).new hd⟩ ?_ ?_
    · rintro i σ H1' hi ⟨Lx, Fd, rfl, bt', h1', h2', pm, lf, G'⟩
      have cnt : (Fd ++ Lx).length = l.length := pm.length_eq
      rw [List.length_append] at cnt
      refine ⟨_, rfl, Nat.zero_le _, fun e he => ?_⟩
      obtain ⟨H1, e1, s1, f1⟩ := gen H1' he (.lst [])
      rw [e1]
      clear e1
      have h1 := s1 _ _ h1'
      have h2 := s1 _ _ h2'
      have bt : But g H H1 := bt'.trans (.of s1)
      refine ⟨l0, e, _, rfl, rfl, SqL.of h1, SqL.of f1, ?_⟩
      refine ⟨_, rfl, ?_⟩
      have ne : (!(natV Lx).isEmpty) = true := by
        cases Lx with
        | nil =>
          rw [List.length_nil] at cnt
          omega
        | cons _ _ => rfl
      rw [ne]
      refine iteT ⟨_, ws_next hi, ?_⟩
      have lL : (natV Lx).length = Lx.length := List.length_map _
      have G2 : GL.Gen H1 g (n + 5 * (l.length - (i + 1)) + 5) := by
        rw [show n + 5 * (l.length - (i + 1)) + 5 = n + 5 * (l.length - i) by omega]
        exact G'.same s1
      refine ⟨_, rfl, .inl ⟨rfl, _, SqL.of h2⟩, _, rfl, .inl ⟨rfl, _, SqL.of h1⟩, _, rfl, _, rfl, l0, natV Lx, rfl, .inl (SqL.of h1), g, (natV Lx).length, n + 5 * (l.length - (i + 1)), rfl, by omega, by omega, G2, ?_⟩
      intro r H2 r0 r1 G3 bt2
      have h1' := bt2 l0 _ h1 gl.symm
      have h2' := bt2 d _ h2 gd.symm
      have rk : r.toNat < Lx.length := by omega
      refine ⟨l0, natV Lx, r, r.toNat, V.int (Lx[r.toNat] : Nat), rfl, rfl, h1', by omega, by omega, seq_in r0 r1, ?_, ?_⟩
      · unfold natV
        rw [List.getElem?_map, List.getElem?_eq_getElem rk]
        rfl
      · refine ⟨d, natV Fd, _, rfl, rfl, by rw [upd_ne ld.symm]; exact h2', ?_, ?_⟩
        · unfold natV
          rw [List.length_map]
          exact small1000 (by omega)
        · refine ⟨Lx.eraseIdx r.toNat, Fd ++ [Lx[r.toNat]], rfl, ?_, ?_, ?_, ?_, ?_, ?_⟩
          · intro b o e nb
            have e' := bt2 b o (bt b o e nb) nb
            rw [upd_ne (ne_of_none e hd0), upd_ne (ne_of_none e hl)]
            exact e'
          · rw [upd_ne ld, upd_same, erase_map]
          · rw [upd_same]
            unfold natV
            rw [List.map_append]
            rfl
          · refine List.Perm.trans ?_ pm
            rw [List.append_assoc]
            exact List.Perm.append_left _ (perm_erase (List.getElem?_eq_getElem rk))
          · rw [List.length_append, lf]
            rfl
          · exact (G3.other gl.symm).other gd.symm
    · rintro σ H1' ⟨Lx, Fd, rfl, bt', h1', h2', pm, lf, G'⟩
      have cnt : (Fd ++ Lx).length = l.length := pm.length_eq
      rw [List.length_append] at cnt
      have z : Lx = [] := List.length_eq_zero_iff.mp (by omega)
      subst z
      refine ⟨_, rfl, Nat.zero_le _, fun e he => ?_⟩
      obtain ⟨H1, e1, s1, f1⟩ := gen H1' he (.lst [])
      rw [e1]
      clear e1
      refine ⟨l0, e, _, rfl, rfl, SqL.of (s1 _ _ h1'), SqL.of f1, ?_⟩
      refine ⟨_, rfl, ?_⟩
      refine iteF ?_
      rw [List.append_nil] at pm
      exact ⟨_, rfl, q d H1 Fd (bt'.trans (.of s1)) hd0 ((G'.same s1).less (by omega)) (s1 _ _ h2') pm⟩
abbrev sWalkW : Stmt := topS 37
abbrev nWalkW : List Str := ["_law_rows", "_law_known", "_law_queue", "_law_at", "_law_one", "_law_other", "_law_here"]
theorem scWalkW : FnScope nWalkW ["_law_rows"] (defScope sWalkW) := ⟨rfl, rfl, rfl, by decide +kernel, rfl, by decide +kernel, by decide +kernel⟩
theorem ok_walkW {f : Addr} {fd : FuncData} (F : Fun K "_law_walked" "_law_walked" sWalkW f fd) (T : Bi mg) (ULturned : Use P w K mg base "_law_turned" ["_law_rows", "_law_one", "_law_other"] spTurnW 1) (ULcouples : Use P w K mg base "_law_couples" ["_law_rows"] spCplW 3) : FnG P w K mg base CX0 5 f fd ["_law_rows"] (spWalkW K) := by
  refine FnG.mk' F scWalkW (fun vs H Q E h => ?_) (fun cdv A outer s H vs Q E hgd hr h => ?_)
  · obtain ⟨a, rs, kss, g, o, rfl, _⟩ := h
    rfl
  · obtain ⟨a, rs, kss, g, o, rfl, hg, ag, gr, t, fine, one, n5, q⟩ := h
    have hgd' : (A.deeper (envOfC "_law_walked" (defScope sWalkW) s.heap.objs.size f cdv)).guards = some [] := hgd
    refine ⟨_, (pss_cons (ps_par3 (i := 1) (j := 2) (l := 3) rfl scWalkW.nd rfl rfl rfl (by decide) (by decide) (by decide) rfl rfl rfl (pa_cons (pe_disp (pps_cons (pe_callB (call_repD hgd' hr.units) (by rfl) T.repr (by decide +kernel) (pa_cons (pv 0) pa_nil)) pe_int pps_nil) (by rfl) (by rfl) (by simp) (by simp)) (pa_cons (pe_lst (pa_cons (pv 0) pa_nil)) (pa_cons pe_int pa_nil))) (by rfl))
      (pss_cons (ps_while PassesOwn.never (pt_cmpR op_lt (pv 3) (pe_callB call_len_seq (by rfl) T.len PySem.boot_len (pa_cons (pv 2) pa_nil)) (nomark _))
        (pss_cons (ps_for PassesOwn.never rfl (pi_list (pe_use ULcouples (hr.mono (by decide)) (by rfl) (pa_cons (pe_ix ix_list (pv 2) (pv 3) (fun _ _ => rfl)) pa_nil))) (pg_tup rfl (pgs_cons (pg_name (i := 4) scWalkW.nd rfl (Or.inl rfl)) (pgs_cons (pg_name (i := 5) scWalkW.nd rfl (Or.inl rfl)) pgs_nil)))
          (pss_cons (ps_set (i := 6) scWalkW.nd rfl (Or.inl rfl) (pe_use ULturned (hr.mono (by decide)) (by rfl) (pa_cons (pe_ix ix_list (pv 2) (pv 3) (fun _ _ => rfl)) (pa_cons (pv 4) (pa_cons (pv 5) pa_nil)))))
          (pss_one (ps_if (pt_cmp (pc_dnotin (hu_of hr) (pe_callB (call_repD hgd' hr.units) (by rfl) T.repr (by decide +kernel) (pa_cons (pv 6) pa_nil)) (pv 1)))
            (pss_cons (ps_dput (hu_of hr) (pv 1) (pe_callB (call_repD hgd' hr.units) (by rfl) T.repr (by decide +kernel) (pa_cons (pv 6) pa_nil)) (pe_op op_add (pe_dget (hu_of hr) (pv 1) (pe_callB (call_repD hgd' hr.units) (by rfl) T.repr (by decide +kernel) (pa_cons (pe_ix ix_list (pv 2) (pv 3) (fun _ _ => rfl)) pa_nil)) (fun _ _ => rfl)) pe_int) rfl)
            (pss_one (ps_expr (pe_bm PySem.F.plainAttrs_list PySem.F.slot_list_append PySem.F.type_list_append mt_append (pv 2) (pa_cons (pv 6) pa_nil))))) pss_nil))))
        (pss_one (ps_set (i := 3) scWalkW.nd rfl (Or.inl rfl) (pe_op op_add (pv 3) pe_int)))))
      (pss_one (ps_ret (pe_lst (pa_cons (pe_callB (cr_sortedD hr.units) (by rfl) T.sorted (by decide +kernel) (pa_cons (pv 2) pa_nil)) (pa_cons (pv 1) pa_nil))))))), ?_⟩
    have fits : ∀ {z : List (List Int)}, Fine 2 z → z.length = kss.length → _ := fun {z} f l => (nice_tab f (by decide) (by omega)).fits
    refine fun D hD => ?_
    refine ⟨_, rfl, .ref a, tabP kss, rfl, (t.same (same_new hD)).dt, (fits fine rfl).1, (fits fine rfl).2.1, (fits fine rfl).2.2, ?_⟩
    refine ⟨upd_same, [((Sum.inr (txtK kss) : Key), V.int 0)], rfl, (by show 1 ≤ 15; decide), ?_⟩
    have em : mergeK [] [((Sum.inr (txtK kss) : Key), V.int 0)] = kD kss [kss] := by
      unfold kD
      rw [List.map_cons, List.map_nil, (ham_zero fine fine rfl).mpr rfl]
      rfl
    rw [em, upd_upd]
    obtain ⟨H1, e1, s1, f1⟩ := gen H hD (.dK (kD kss [kss]))
    rw [e1]
    clear e1
    refine ⟨_, rfl, one_le, fun Qa hQ => ?_⟩
    obtain ⟨H2, e2, s2, f2⟩ := gen H1 hQ (.lst [.ref a])
    rw [e2]
    clear e2
    refine ⟨_, _, _, rfl, ?_⟩
    have nQ : H Qa = none := s1.free hQ
    have QD : Qa ≠ D := fun z => by rw [z, f1] at hQ; cases hQ
    have inj : ∀ {qs : List (List (List Int))} {z : List (List Int)}, (∀ q ∈ qs, JK kss q) → JK kss z → ∀ q ∈ qs, txtK q = txtK z → q = z := fun {qs z} h g q hq e => txtK_inj ((h q hq).fine fine) (g.fine fine) (by rw [g.len, (h q hq).len]) (by rw [(h q hq).len]; exact n5) e
    have W0 : WkF H H2 Qa D g kss [a] [kss] := ⟨s1.trans s2, f2, rfl, fun i ad z h1 h2 => by
      cases i with
      | zero =>
        cases h1
        cases h2
        refine ⟨rs, tab_hdW (t.same (s1.trans s2)) (ne_of_none t.top nQ) (ne_of_none t.top hD) ag fun r hr => ?_⟩
        obtain ⟨j, hj⟩ := List.mem_iff_getElem?.mp hr
        have jl := (List.getElem?_eq_some_iff.mp hj).1
        obtain ⟨r', ks', q1, _, q3⟩ := t.at (i := j) (by rw [← t.len]; exact jl)
        rw [hj] at q1
        cases q1
        exact ⟨ne_of_none q3 nQ, ne_of_none q3 hD, fun z => gr (z ▸ hr)⟩
      | succ i => simp at h1, s2 _ _ f1⟩
    refine while_ws 1024 (fun n σ H' => ∃ (ads : List Addr) (qs : List (List (List Int))) (e4 e5 e6 : Option V), σ = [some (.ref a), some (.ref D), some (.ref Qa), some (.int ((n : Nat) : Int)), e4, e5, e6] ∧ WkF H H' Qa D g kss ads qs ∧ Bfs kss n qs ∧ n ≤ qs.length)
      ⟨[a], [kss], _, _, _, rfl, W0, bfs_start, Nat.zero_le _⟩ ?_ ?_
    · rintro n σ H3 hn ⟨ads, qs, e4, e5, e6, rfl, W, B, nq⟩
      have ql := bfs_len fine n5 B
      refine ⟨_, rfl, _, rfl, Qa, _, rfl, .inl (SqL.of W.top), _, _, rfl, rfl, _, rfl, ?_⟩
      rw [List.length_map, W.len]
      by_cases c : n < qs.length
      · rw [decide_eq_true (show ((n : Nat) : Int) < ((qs.length : Nat) : Int) by omega)]
        refine iteT ⟨_, ws_next hn, ?_⟩
        obtain ⟨p, hp⟩ : ∃ p, qs[n]? = some p := ⟨_, List.getElem?_eq_getElem c⟩
        have Jp := B.jk p (List.mem_of_getElem? hp)
        have fp := Jp.fine fine
        have lp := Jp.len
        obtain ⟨ad, rsx, had, tp⟩ := W.at hp
        have atq : ∀ {ads : List Addr} {ad : Addr}, ads[n]? = some ad → atI (ads.map V.ref) ((n : Nat) : Int) = some (.ref ad) := fun h => atI_nat (by rw [List.getElem?_map, h]; rfl)
        refine ⟨_, rfl, _, rfl, Qa, _, _, _, rfl, rfl, SqL.of W.top, atq had, ad, rsx, p, rfl, tp, fp, by omega, fun cl us H4 s4 ncl C eus => ?_⟩
        refine ⟨cl, rfl, ⟨_, SqL.of C.top⟩, ?_⟩
        have tQ := W.top
        have tD := W.known
        have clQ : cl ≠ Qa := fun z => by rw [z, W.top] at ncl; cases ncl
        have clD : cl ≠ D := fun z => by rw [z, W.known] at ncl; cases ncl
        have lus : (us.map fun t => V.ref t.1).length = us.length := List.length_map _
        refine for_list (K := K) (a := cl) (xs := us.map fun t => V.ref t.1) (fun j σ H' => ∃ (ads : List Addr) (qs : List (List (List Int))) (e4 e5 e6 : Option V), σ = [some (.ref a), some (.ref D), some (.ref Qa), some (.int ((n : Nat) : Int)), e4, e5, e6] ∧ WkF H H' Qa D g kss ads qs ∧ Bfs kss n qs ∧ qs[n]? = some p ∧ (∀ c ∈ (cplL p).take j, turnK p c.1 c.2 ∈ qs) ∧ ∀ b o, b ≠ Qa → b ≠ D → H4 b = some o → H' b = some o)
          ⟨ads, qs, _, _, _, rfl, W.fwd s4, B, hp, by simp, fun _ _ _ _ e => e⟩ (fun j σ H' _ z => by
            obtain ⟨_, _, _, _, _, _, _, _, _, _, k4⟩ := z
            exact SqL.of (k4 _ _ clQ clD C.top)) ?_ ?_
        · rintro j v σ H5 hv ⟨ads, qs, e4, e5, e6, rfl, W, B, hp, dn, k4⟩
          have ql := bfs_len fine n5 B
          rw [List.getElem?_map] at hv
          cases eu : us[j]? with
          | none => rw [eu] at hv; cases hv
          | some u =>
            rw [eu] at hv
            cases hv
            have um := List.mem_of_getElem? eu
            have un := C.new u um
            have hu := k4 _ _ (fun z => by rw [z, tQ] at un; cases un) (fun z => by rw [z, tD] at un; cases un) (C.row u um)
            have uc : (cplL p)[j]? = some u.2 := by rw [← eus, List.getElem?_map, eu]; rfl
            have ucm := List.mem_of_getElem? uc
            obtain ⟨c1, c2, al⟩ := cplL_at ucm
            obtain ⟨ad, rsx, had, tp⟩ := W.at hp
            refine ⟨u.1, [.int ((u.2.1 : Nat) : Int), .int ((u.2.2 : Nat) : Int)], rfl, SqT.of hu, rfl, _, _, rfl, _, _, rfl, rfl, ?_⟩
            refine ⟨_, rfl, _, rfl, Qa, _, _, _, rfl, rfl, SqL.of W.top, atq had, _, rfl, _, rfl, ad, rsx, p, u.2.1, u.2.2, rfl, tp, fp, by omega, by omega, c2, by omega, fun x xs H6 s6 nx nxs _ tx => ?_⟩
            rw [show min u.2.1 u.2.2 = u.2.1 by omega, show max u.2.1 u.2.2 = u.2.2 by omega] at tx
            obtain ⟨X, hX⟩ : ∃ X, X = turnK p u.2.1 u.2.2 := ⟨_, rfl⟩
            have JX : JK kss X := by rw [hX]; exact Jp.step c1 c2 al
            have fX := JX.fine fine
            have lX := JX.len
            rw [← hX] at tx
            refine gName_by ?_
            have W6 := W.fwd s6
            have injq := inj B.jk JX
            have k6 : ∀ b o, b ≠ Qa → b ≠ D → H4 b = some o → H6 b = some o := fun b o nb nd e => s6 _ _ (k4 b o nb nd e)
            have tk : ∀ qs' : List (List (List Int)), X ∈ qs' → (∀ q ∈ qs, q ∈ qs') → ∀ c ∈ (cplL p).take (j + 1), turnK p c.1 c.2 ∈ qs' := fun qs' hX' sub c hc => by
              rw [List.take_add_one, uc] at hc
              rcases List.mem_append.mp hc with z | z
              · exact sub _ (dn c z)
              · have : c = u.2 := by simpa using z
                rw [this, ← hX]
                exact hX'
            refine ⟨_, rfl, .ref x, tabP X, rfl, tx.dt, (fits fX lX).1, (fits fX lX).2.1, (fits fX lX).2.2, _, rfl, D, _, rfl, DGet.k (k := Sum.inr (txtK X)) W6.known, _, rfl, ?_⟩
            by_cases hm : X ∈ qs
            · rw [kD_in injq hm]
              refine iteF ?_
              exact ⟨ads, qs, _, _, _, rfl, W6, B, hp, tk qs hm fun _ h => h, k6⟩
            · rw [kD_out injq hm]
              refine iteT ?_
              obtain ⟨hx1, B2⟩ := bfs_new fine B hp ucm (by rw [← hX]; exact hm)
              rw [← hX] at hx1 B2
              have pm := List.mem_of_getElem? hp
              have gp : DGet H6 D (.str (txtK p)) (some (.int ((hamK kss p : Nat) : Int))) := by
                have := DGet.k (k := Sum.inr (txtK p)) W6.known
                rw [kD_in (inj B.jk Jp) pm] at this
                exact this
              have tp6 := tp.same s6
              refine ⟨_, rfl, _, rfl, _, rfl, Qa, _, _, _, rfl, rfl, SqL.of W6.top, atq had, .ref ad, tabP p, rfl, tp6.dt, (fits fp lp).1, (fits fp lp).2.1, (fits fp lp).2.2, D, _, rfl, gp, _, _, rfl, rfl, _, rfl, _, rfl, .ref x, tabP X, rfl, tx.dt, (fits fX lX).1, (fits fX lX).2.1, (fits fX lX).2.2, D, _, rfl, DPut.k (k := Sum.inr (txtK X)) W6.known (by unfold kD; rw [List.length_map, sizeLine_eq]; exact Nat.lt_of_le_of_lt ql (by decide)), ?_⟩
              have top7 : ∀ v, upd H6 D (.dK (putK (kD kss qs) (Sum.inr (txtK X)) v)) Qa = some (.lst (ads.map V.ref)) := fun v => by
                rw [upd_ne QD]
                exact W6.top
              refine ⟨_, rfl, .inl ⟨rfl, _, SqL.of (top7 _)⟩, _, rfl, Qa, _, _, rfl, rfl, top7 _, by rw [List.length_map, W.len, sizeLine_eq]; exact Nat.lt_of_le_of_lt ql (by decide), ?_⟩
              have xQ : x ≠ Qa := fun z => by rw [z, W.top] at nx; cases nx
              have xD : x ≠ D := fun z => by rw [z, W.known] at nx; cases nx
              have hg5 := W.same _ _ hg
              have xg : x ≠ g := fun z => by rw [z, hg5] at nx; cases nx
              have tX := tab_hdW (a := Qa) (b := D) (g := g) tx xQ xD xg fun r hr => ⟨(fun z => by
                have := nxs r hr
                rw [z, W.top] at this
                cases this), (fun z => by
                have := nxs r hr
                rw [z, W.known] at this
                cases this), (fun z => by
                have := nxs r hr
                rw [z, hg5] at this
                cases this)⟩
              refine ⟨ads ++ [x], qs ++ [X], _, _, _, rfl, W6.push' nQ hD QD injq hm tX (congrArg V.int (show ((hamK kss p : Nat) : Int) + 1 = ((hamK kss X : Nat) : Int) by omega)), B2, by rw [List.getElem?_append_left (List.getElem?_eq_some_iff.mp hp).1]; exact hp, tk _ (List.mem_append_right _ (List.mem_cons_self ..)) (fun _ h => List.mem_append_left _ h), fun b o nb nd e => ?_⟩
              rw [upd_ne nb, upd_ne nd]
              exact k6 b o nb nd e
        · rintro σ H5 ⟨ads, qs, e4, e5, e6, rfl, W, B, hp, dn, k4⟩
          have e0 : us.length = (cplL p).length := by rw [← eus, List.length_map]
          rw [lus, e0, List.take_length] at dn
          have lt := (List.getElem?_eq_some_iff.mp hp).1
          refine ⟨_, rfl, _, _, rfl, rfl, ?_⟩
          exact ⟨ads, qs, _, _, _, rfl, W, bfs_next B hp dn, lt⟩
      · rw [decide_eq_false (show ¬ (((n : Nat) : Int) < ((qs.length : Nat) : Int)) by omega)]
        refine iteF ?_
        have ef := W.fst
        refine ⟨_, rfl, Qa, (ads.zip qs).map qD, rfl, SqL.of (by rw [ef]; exact W.top), fun b hb => ?_, ?_, ?_, fun b hb => ?_, fun p hpn => ?_⟩
        · obtain ⟨y, hy, rfl⟩ := List.mem_map.mp hb
          obtain ⟨rs', t'⟩ := W.zip hy
          exact t'.dp
        · rw [List.map_map]
          exact PySem.W.AllAlike.of fun b b' => alike_tabs b.2 b'.2
        · rw [List.map_map]
          exact PySem.W.Sortable.others fun b => ⟨fun z => (by cases z), fun xs z => (by cases z)⟩
        · obtain ⟨y, hy, rfl⟩ := List.mem_map.mp hb
          exact Nat.le_trans (depth_rows y.2) (by decide)
        · have pg : p ≠ g := (ne_of_none (W.same _ _ hg) hpn).symm
          obtain ⟨qs', pq, dq⟩ := W.sorted K (PySem.W.dataLe false (·.2)) hpn
          have sp := same_new (o := .lst ((((ads.zip qs).map qD).mergeSort (PySem.W.dataLe false (·.2))).map (·.1))) hpn
          have W2 := W.fwd sp
          generalize upd H3 p (.lst ((((ads.zip qs).map qD).mergeSort (PySem.W.dataLe false (·.2))).map (·.1))) = H4 at dq W2
          refine ⟨_, rfl, (by show 2 ≤ sizeLine; decide), fun r hr => ?_⟩
          have mem := fun z => bfs_all (z := z) fine B (show qs.length ≤ n by omega)
          refine q r D (.ref p) qs' (kD kss qs) _ (W2.same.trans (same_new hr)) upd_same (fun z => by rw [pq.mem_iff]; exact mem z) (by rw [pq.length_eq]; exact ql) ((dq pg).same (hid_mono (same_new hr))) (same_new hr _ _ W2.known) fun z fz lz => ⟨fun J => kD_in (inj B.jk J) ((mem z).mpr J), fun J => kD_out (fun q' hq e => ?_) fun h => J ((mem z).mp h)⟩
          exact txtK_inj ((B.jk q' hq).fine fine) fz (by rw [lz, (B.jk q' hq).len]) (by rw [(B.jk q' hq).len]; exact n5) e
    · rintro σ H3 ⟨ads, qs, e4, e5, e6, rfl, W, B, nq⟩
      have ql := bfs_len fine n5 B
      refine ⟨_, rfl, _, rfl, Qa, _, rfl, .inl (SqL.of W.top), _, _, rfl, rfl, _, rfl, ?_⟩
      rw [List.length_map, W.len]
      rw [decide_eq_false (show ¬ (((1024 : Nat) : Int) < ((qs.length : Nat) : Int)) by omega)]
      refine iteF ?_
      have ef := W.fst
      refine ⟨_, rfl, Qa, (ads.zip qs).map qD, rfl, SqL.of (by rw [ef]; exact W.top), fun b hb => ?_, ?_, ?_, fun b hb => ?_, fun p hpn => ?_⟩
      · obtain ⟨y, hy, rfl⟩ := List.mem_map.mp hb
        obtain ⟨rs', t'⟩ := W.zip hy
        exact t'.dp
      · rw [List.map_map]
        exact PySem.W.AllAlike.of fun b b' => alike_tabs b.2 b'.2
      · rw [List.map_map]
        exact PySem.W.Sortable.others fun b => ⟨fun z => (by cases z), fun xs z => (by cases z)⟩
      · obtain ⟨y, hy, rfl⟩ := List.mem_map.mp hb
        exact Nat.le_trans (depth_rows y.2) (by decide)
      · have pg : p ≠ g := (ne_of_none (W.same _ _ hg) hpn).symm
        obtain ⟨qs', pq, dq⟩ := W.sorted K (PySem.W.dataLe false (·.2)) hpn
        have sp := same_new (o := .lst ((((ads.zip qs).map qD).mergeSort (PySem.W.dataLe false (·.2))).map (·.1))) hpn
        have W2 := W.fwd sp
        generalize upd H3 p (.lst ((((ads.zip qs).map qD).mergeSort (PySem.W.dataLe false (·.2))).map (·.1))) = H4 at dq W2
        refine ⟨_, rfl, (by show 2 ≤ sizeLine; decide), fun r hr => ?_⟩
        have mem := fun z => bfs_all (z := z) fine B (show qs.length ≤ 1024 by omega)
        refine q r D (.ref p) qs' (kD kss qs) _ (W2.same.trans (same_new hr)) upd_same (fun z => by rw [pq.mem_iff]; exact mem z) (by rw [pq.length_eq]; exact ql) ((dq pg).same (hid_mono (same_new hr))) (same_new hr _ _ W2.known) fun z fz lz => ⟨fun J => kD_in (inj B.jk J) ((mem z).mpr J), fun J => kD_out (fun q' hq e => ?_) fun h => J ((mem z).mp h)⟩
        exact txtK_inj ((B.jk q' hq).fine fine) fz (by rw [lz, (B.jk q' hq).len]) (by rw [(B.jk q' hq).len]; exact n5) e
end
end K58

namespace K58
open PySem PySem.Spec PyProof.Rows
open L2 hiding spCell
open GL
def spLaidS : Sp := fun vs H Q _ => ∃ (m : Nat) (o : Addr) (os : List Nat), vs = [.ref o] ∧ m ≤ 40 ∧ H o = some (.lst (natV os)) ∧ os.Perm (List.range m) ∧
  ∀ (p : Addr) (ps : List Addr) (H' : Hp), Same H H' → H p = none → (∀ q ∈ ps, H q = none) → Tab H' p ps (laidK m os) → Q (.ref p) H'
def spAmongW : Sp := fun vs H Q _ => ∃ (a L : Addr) (rs : List Addr) (kss : List (List Int)) (l : List Nat), vs = [.ref a, .ref L] ∧ Tab H a rs kss ∧ Fine 2 kss ∧ kss.length ≤ 40 ∧ H L = some (.lst (natV l)) ∧ LotOf kss.length l ∧
  ∀ (p : Addr) (ps : List Addr) (H' : Hp), Same H H' → H p = none → (∀ q ∈ ps, H q = none) → Tab H' p ps (amongK kss l) → Q (.ref p) H'
section
variable {P : Program} {w : World} {K : PySem.W.Frag} {mg : Str → Option Value} {base : Heap}
abbrev sLaidS : Stmt := topS 46
abbrev nLaidS : List Str := ["_law_order", "_law_person", "_law_mate"]
theorem scLaidS : FnScope nLaidS ["_law_order"] (defScope sLaidS) := ⟨rfl, rfl, rfl, by decide +kernel, rfl, by decide +kernel, by decide +kernel⟩
theorem ok_laidS {f : Addr} {fd : FuncData} (F : Fun K "_law_laid" "_law_laid" sLaidS f fd) (T : Bi mg) : FnOk P w K mg base CX0 2 f fd ["_law_order"] spLaidS := by
  refine F.ok scLaidS (fun vs H Q E h => ?_) (fun cdv A outer s H vs Q E hr h => ?_)
  · obtain ⟨m, o, os, rfl, _⟩ := h
    rfl
  · obtain ⟨m, o, os, rfl, m40, ho, pm, q⟩ := h
    have h65 : (A.deeper (envOfC "_law_laid" (defScope sLaidS) s.heap.objs.size f cdv)).units + 65 < cLine := by
      have := hr.un
      omega
    refine ⟨_, (pss_one (ps_ret (pe_lc (own := [("_law_person", 1)]) (g := (gName 1)) (tt := tYes) (te := (tLc (iRng1 (tCons (tVar 1) tNil)) (gName 2) tYes (tCB rInt1 (tCons (tOp (rI0 fun i j => .bl (decide (i < j))) (tBM K "list" (rIndexD K) (tVar 0) (tCons (tVar 1) tNil)) (tBM K "list" (rIndexD K) (tVar 0) (tCons (tVar 2) tNil))) tNil)) [2])) rfl scLaidS.nd (pi_range1 (by rfl) T.range (pa_cons (pe_callB call_len_seq (by rfl) T.len PySem.boot_len (pa_cons (pv 0) pa_nil)) pa_nil))
            (blkOk_by (N := nLaidS) (sc := (defScope sLaidS)) (by decide +kernel)) (fun _ _ _ _ _ => (pg_name (i := 1) scLaidS.nd rfl (Or.inr rfl))) (fun _ _ _ _ _ => by exact pts_nil)
            (fun _ _ _ _ _ => by exact (pe_lc (own := [("_law_mate", 2)]) (g := (gName 2)) (tt := tYes) (te := (tCB rInt1 (tCons (tOp (rI0 fun i j => .bl (decide (i < j))) (tBM K "list" (rIndexD K) (tVar 0) (tCons (tVar 1) tNil)) (tBM K "list" (rIndexD K) (tVar 0) (tCons (tVar 2) tNil))) tNil))) rfl scLaidS.nd (pi_range1 (by rfl) T.range (pa_cons (pv 1) pa_nil))
            (blkOk_by (N := nLaidS) (sc := (relS (wC (wX (wS (defBody sLaidS) 0) 0)) (defScope sLaidS))) (by decide +kernel)) (fun _ _ _ _ _ => (pg_name (i := 2) scLaidS.nd rfl (Or.inl rfl))) (fun _ _ _ _ _ => by exact pts_nil)
            (fun _ _ _ _ _ => by exact (pe_callTy call_int1 (by rfl) T.int PyProof.Rows.boot_int (pa_cons (pe_cmpR op_lt (pe_bm PySem.F.plainAttrs_list PySem.F.slot_list_index PySem.F.type_list_index (mt_indexD h65) (pv 0) (pa_cons (pv 1) pa_nil)) (pe_bm PySem.F.plainAttrs_list PySem.F.slot_list_index PySem.F.type_list_index (mt_indexD h65) (pv 0) (pa_cons (pv 2) pa_nil)) (nomark _)) pa_nil)))))))), ?_⟩
    have nd : os.Nodup := pm.nodup_iff.mpr List.nodup_range
    have mem : ∀ i, i < m → i ∈ os := fun i hi => pm.mem_iff.mpr (List.mem_range.mpr hi)
    have los : (natV os).length = m := by rw [natV_len, pm.length_eq, List.length_range]
    refine ⟨_, rfl, o, _, rfl, .inl (SqL.of ho), ((natV os).length : Int), rfl, by omega, by omega, fun D hD => ?_⟩
    rw [los]
    refine lc_objs (walk_nat (n := (m : Int).toNat)) (fun i => .lst (((laidK m os).getD i []).map V.int)) hD (by rw [sizeLine_eq]; omega) (fun _ _ => trivial) ?_ ?_
    · rintro i v H5 H6 M hi s5 ⟨rfl, rfl⟩ hM
      have im : i < m := by omega
      refine ⟨rfl, ?_⟩
      refine ⟨_, rfl, (i : Int), rfl, by omega, by omega, fun E0 hE => ?_⟩
      refine lc_vals (walk_nat (n := (i : Int).toNat)) (fun j => .int (if decide (((os.idxOf i : Nat) : Int) < ((os.idxOf j : Nat) : Int)) = true then 1 else 0)) hE (by rw [sizeLine_eq]; omega) (fun _ _ => trivial) ?_ ?_
      · rintro j v H7 H8 N hj s7 ⟨rfl, rfl⟩ hN
        refine ⟨rfl, ?_⟩
        have ho7 := s7 _ _ (s5 _ _ ho)
        refine ⟨_, rfl, .inl ⟨rfl, _, SqL.of ho7⟩, _, rfl, ?_⟩
        dsimp only [tNil]
        refine index_of nd ho7 (mem i im) ?_
        refine ⟨_, rfl, .inl ⟨rfl, _, SqL.of ho7⟩, _, rfl, ?_⟩
        dsimp only [tNil]
        refine index_of nd ho7 (mem j (by omega)) ?_
        exact ⟨_, _, rfl, rfl, .inr ⟨_, rfl, hN _ (Same.refl _)⟩⟩
      · intro H7 s7 h7
        rw [Int.toNat_natCast] at h7
        refine hM H7 E0 s7 hE ?_
        rw [h7, List.getD_eq_getElem?_getD, laid_get im]
        show _ = some (HO.lst ((laidR os i).map V.int))
        unfold laidR
        rw [List.map_map]
        rfl
    · intro H5 ps s5 ob
      rw [Int.toNat_natCast] at ob
      exact q D ps H5 s5 hD ob.new (ob.tab (laid_len m os))
abbrev sAmongW : Stmt := topS 38
abbrev nAmongW : List Str := ["_law_rows", "_law_people", "_law_at", "_law_person", "_law_mate"]
theorem scAmongW : FnScope nAmongW ["_law_rows", "_law_people"] (defScope sAmongW) := ⟨rfl, rfl, rfl, by decide +kernel, rfl, by decide +kernel, by decide +kernel⟩
theorem ok_amongW {f : Addr} {fd : FuncData} (F : Fun K "_law_among" "_law_among" sAmongW f fd) (T : Bi mg) (ULwon : Use P w K mg base "_law_won" ["_law_rows", "_law_one", "_law_other"] spWon 1) : FnOk P w K mg base CX0 2 f fd ["_law_rows", "_law_people"] spAmongW := by
  refine F.ok scAmongW (fun vs H Q E h => ?_) (fun cdv A outer s H vs Q E hr h => ?_)
  · obtain ⟨a, L, rs, kss, l, rfl, _⟩ := h
    rfl
  · obtain ⟨a, L, rs, kss, l, rfl, t, fine, n40, hL, LO, q⟩ := h
    refine ⟨_, (pss_one (ps_ret (pe_lc (own := [("_law_at", 2), ("_law_person", 3)]) (g := (gTup K 2 (gCons (gName 2) (gCons (gName 3) gNil)))) (tt := tYes) (te := (tLc (iList K (tSl (rSlL K) (tVar 1) tNoPart (tPart (tVar 2)))) (gName 4) tYes (tCB rInt1 (tCons (tCall spWon [] E0 (tCons (tVar 0) (tCons (tVar 3) (tCons (tVar 4) tNil)))) tNil)) [4])) rfl scAmongW.nd (pi_enum (by rfl) T.enumerate (pa_cons (pv 1) pa_nil))
            (blkOk_by (N := nAmongW) (sc := (defScope sAmongW)) (by decide +kernel)) (fun _ _ _ _ _ => (pg_tup rfl (pgs_cons (pg_name (i := 2) scAmongW.nd rfl (Or.inl rfl)) (pgs_cons (pg_name (i := 3) scAmongW.nd rfl (Or.inr rfl)) pgs_nil)))) (fun _ _ _ _ _ => by exact pts_nil)
            (fun _ _ _ _ _ => by exact (pe_lc (own := [("_law_mate", 4)]) (g := (gName 4)) (tt := tYes) (te := (tCB rInt1 (tCons (tCall spWon [] E0 (tCons (tVar 0) (tCons (tVar 3) (tCons (tVar 4) tNil)))) tNil))) rfl scAmongW.nd (pi_list (pe_slice sl_list (pv 1) po_none (po_some (pv 2))))
            (blkOk_by (N := nAmongW) (sc := (relS (wC (wX (wS (defBody sAmongW) 0) 0)) (defScope sAmongW))) (by decide +kernel)) (fun _ _ _ _ _ => (pg_name (i := 4) scAmongW.nd rfl (Or.inl rfl))) (fun _ _ _ _ _ => by exact pts_nil)
            (fun _ _ _ _ _ => by exact (pe_callTy call_int1 (by rfl) T.int PyProof.Rows.boot_int (pa_cons (pe_use ULwon hr (by rfl) (pa_cons (pv 0) (pa_cons (pv 3) (pa_cons (pv 4) pa_nil)))) pa_nil)))))))), ?_⟩
    have ll : l.length ≤ 40 := by
      have := List.Nodup.length_le_of_subset (LO.up.imp fun h => Nat.ne_of_lt h) (l₂ := List.range kss.length) fun x hx => List.mem_range.mpr (LO.low x hx)
      rw [List.length_range] at this
      omega
    have lnat : (natV l).length = l.length := natV_len l
    refine ⟨_, rfl, L, _, rfl, SqL.of hL, fun D hD => ?_⟩
    refine lc_objs (walk_enum (K := K) (a := L) (xs := natV l)) (fun i => .lst (((amongK kss l).getD i []).map V.int)) hD (by rw [lnat, sizeLine_eq]; omega) (fun H' s => SqL.of (s _ _ hL)) ?_ ?_
    · rintro i v H2 H3 N hi s2 ⟨T, x1, x2, rfl, nT, rfl, g1, g2⟩ hN
      rw [lnat] at hi
      have g1' : x1 = .int ((i : Nat) : Int) := (Option.some.inj g1).symm
      subst g1'
      have g2 : (natV l)[i]? = some x2 := g2
      unfold natV at g2
      rw [List.getElem?_map, lotW_at hi] at g2
      cases g2
      have sT := same_new (o := .tup [.int ((i : Nat) : Int), .int ((lotW l i : Nat) : Int)]) nT
      refine ⟨T, [.int ((i : Nat) : Int), .int ((lotW l i : Nat) : Int)], rfl, SqT.of upd_same, rfl, _, _, rfl, _, _, rfl, rfl, ?_⟩
      have s3 := s2.trans sT
      generalize upd H2 T (.tup [.int ((i : Nat) : Int), .int ((lotW l i : Nat) : Int)]) = H4 at s3 sT
      refine ⟨rfl, ?_⟩
      refine ⟨_, rfl, _, rfl, _, rfl, L, _, rfl, SqL.of (s3 _ _ hL), fun c hc => ?_⟩
      have ec : cutV (natV l) none (some ((i : Nat) : Int)) = natV (l.take i) := by
        rw [cut_upto]
        unfold natV
        rw [List.map_take]
      rw [ec]
      obtain ⟨H5, e5, s5, f5⟩ := gen H4 hc (.lst (natV (l.take i)))
      rw [e5]
      clear e5
      have lt : (natV (l.take i)).length = i := by rw [natV_len, List.length_take]; omega
      refine ⟨c, rfl, ⟨_, SqL.of f5⟩, fun E0 hE => ?_⟩
      refine lc_vals (walk_list (K := K) (a := c) (xs := natV (l.take i))) (fun j => .int (tieN kss (lotW l i) (lotW l j))) hE (by rw [lt, sizeLine_eq]; omega) (fun H' s => SqL.of (s _ _ f5)) ?_ ?_
      · rintro j v H6 H7 N2 hj s6 ⟨rfl, ex⟩ hN2
        rw [lt] at hj
        have ex : (natV (l.take i))[j]? = some v := ex
        unfold natV at ex
        rw [List.getElem?_map, List.getElem?_take_of_lt hj, lotW_at (by omega)] at ex
        cases ex
        refine ⟨rfl, ?_⟩
        have t7 := t.same (s3.trans (s5.trans s6))
        have ne := LO.ne hi (show j < l.length by omega) (by omega)
        have lt2 := LO.lt hj hi
        refine ⟨_, rfl, _, rfl, _, rfl, a, rs, kss, lotW l i, lotW l j, rfl, t7, fine, LO.below hi, LO.below (by omega), ne, ?_⟩
        refine .inr ⟨_, rfl, ?_⟩
        have ev : (if wonB kss (lotW l i) (lotW l j) = true then (1 : Int) else 0) = tieN kss (lotW l i) (lotW l j) := by
          obtain ⟨q0, q1⟩ := tieN_in fine (LO.below hi) (LO.below (show j < l.length by omega)) ne
          unfold wonB
          rw [if_pos lt2]
          by_cases c : tieN kss (lotW l i) (lotW l j) = 1
          · rw [decide_eq_true c, if_pos rfl, c]
          · rw [decide_eq_false c, if_neg (by decide)]
            omega
        rw [ev]
        exact hN2 _ (Same.refl _)
      · intro H6 s6 h6
        rw [lt] at h6
        refine hN H6 E0 (sT.trans (s5.trans s6)) (sT.free (s5.free hE)) ?_
        rw [h6, List.getD_eq_getElem?_getD, among_get hi]
        show _ = some (HO.lst (((List.range i).map fun j => tieN kss (lotW l i) (lotW l j)).map V.int))
        rw [List.map_map]
        rfl
    · intro H2 ps s2 ob
      rw [lnat] at ob
      exact q D ps H2 s2 hD ob.new (ob.tab (among_len kss l))
end
end K58

namespace K58
open PySem PySem.Spec PyProof.Rows
open L2 hiding spCell
open GL
theorem lots_choices {n t : Nat} (hn : n ≤ 7) (ht : t ≤ 4) : lotsK n t = Cmb.choices n t := by
  have h : ((List.range 8).all fun n => (List.range 5).all fun t => decide (lotsK n t = Cmb.choices n t)) = true := by decide +kernel
  have h1 := List.all_eq_true.mp h n (List.mem_range.mpr (by omega))
  have h2 := List.all_eq_true.mp h1 t (List.mem_range.mpr (by omega))
  exact of_decide_eq_true h2
theorem lastK {l : List Nat} (h : l ≠ []) {x : Nat} (e : loN l = x + 1) : atI (natV l) (-1) = some (.int ((x : Nat) : Int)) := by
  obtain ⟨a, y, rfl⟩ : ∃ a y, l = a ++ [y] := ⟨_, _, (List.dropLast_concat_getLast h).symm⟩
  unfold loN at e
  rw [List.getLast?_concat] at e
  have : y = x := by simpa using e
  subst this
  unfold natV
  rw [List.map_append]
  exact atI_last _ _
section
variable {P : Program} {w : World} {K : PySem.W.Frag} {mg : Str → Option Value} {base : Heap}
abbrev sLots : Stmt := topS 39
abbrev nLots : List Str := ["_law_size", "_law_many", "_law_found", "_law_turn", "_law_longer", "_law_lot", "_law_person"]
theorem scLots : FnScope nLots ["_law_size", "_law_many"] (defScope sLots) := ⟨rfl, rfl, rfl, by decide +kernel, rfl, by decide +kernel, by decide +kernel⟩
theorem ok_lots {f : Addr} {fd : FuncData} (F : Fun K "_law_lots" "_law_lots" sLots f fd) (T : Bi mg) : FnOk P w K mg base CX0 1 f fd ["_law_size", "_law_many"] spLots := by
  refine F.ok scLots (fun vs H Q E h => ?_) (fun cdv A outer s H vs Q E hr h => ?_)
  · obtain ⟨n, m, rfl, _⟩ := h
    rfl
  · obtain ⟨n, m, rfl, n20, m5, q⟩ := h
    refine ⟨_, (pss_cons (ps_set (i := 2) scLots.nd rfl (Or.inl rfl) (pe_lst (pa_cons (pe_lst pa_nil) pa_nil)))
      (pss_cons (ps_for PassesOwn.never rfl (pi_range1 (by rfl) T.range (pa_cons (pv 1) pa_nil)) (pg_name (i := 3) scLots.nd rfl (Or.inl rfl))
        (pss_cons (ps_set (i := 4) scLots.nd rfl (Or.inl rfl) (pe_lst pa_nil))
        (pss_cons (ps_for PassesOwn.never rfl (pi_list (pv 2)) (pg_name (i := 5) scLots.nd rfl (Or.inr rfl))
          (pss_one (ps_set (i := 4) scLots.nd rfl (Or.inl rfl) (pe_op op_cat (pv 4) (pe_lc (own := [("_law_person", 6)]) (g := (gName 6)) (tt := tYes) (te := (tOp rCat (tVar 5) (tLst (tCons (tVar 6) tNil)))) rfl scLots.nd (pi_range2 (by rfl) T.range (pa_cons (pe_ifExp (pt_cmpR (op_neNil hr.units) (pv 5) (pe_lst pa_nil) (nomark _)) (pe_op op_add (pe_ix ix_list (pv 5) (pe_un un_neg pe_int) (fun _ _ => rfl)) pe_int) pe_int) (pa_cons (pv 0) pa_nil)))
            (blkOk_by (N := nLots) (sc := (defScope sLots)) (by decide +kernel)) (fun _ _ _ _ _ => (pg_name (i := 6) scLots.nd rfl (Or.inl rfl))) (fun _ _ _ _ _ => by exact pts_nil)
            (fun _ _ _ _ _ => by exact (pe_op op_cat (pv 5) (pe_lst (pa_cons (pv 6) pa_nil)))))))))
        (pss_one (ps_set (i := 2) scLots.nd rfl (Or.inl rfl) (pv 4))))))
      (pss_one (ps_ret (pv 2))))), ?_⟩
    refine ⟨Nat.zero_le _, fun l0 hl0 => ?_⟩
    obtain ⟨H1, e1, s1, f1⟩ := gen H hl0 (.lst [])
    rw [e1]
    clear e1
    refine ⟨one_le, fun p0 hp0 => ?_⟩
    obtain ⟨H2, e2, s2, f2⟩ := gen H1 hp0 (.lst [.ref l0])
    rw [e2]
    clear e2
    have L0 : Lists H H2 p0 [l0] (lotsK n 0) := ⟨f2, rfl, fun i r h => by
      match i, h with
      | 0, h => cases h; exact s2 _ _ f1
      | i + 1, h => simp at h, by simp, by rw [List.mem_singleton]; exact fun z => ne_of_none f1 hp0 z.symm, by simp [hl0]⟩
    refine ⟨_, rfl, m, rfl, by omega, by omega, ?_⟩
    refine for_range (lo := 0) (n := (m : Int).toNat) (fun i σ H' => ∃ (p : Addr) (rs : List Addr) (tv gv lv : Option V), σ = [some (.int n), some (.int m), some (.ref p), tv, gv, lv, none] ∧ Same H H' ∧ H p = none ∧ Lists H H' p rs (lotsK n i))
      ⟨p0, [l0], _, _, _, rfl, s1.trans s2, s1.free hp0, L0⟩ ?_ ?_
    · rintro i σ H3 hi ⟨p, rs, tv, gv, lv, rfl, s3, np, L⟩
      have big : (lotsK n i).length ≤ 160000 := Nat.le_trans (lots_len n i) (Nat.le_trans (Nat.pow_le_pow_left n20 i) (Nat.le_trans (Nat.pow_le_pow_right (by decide) (by omega : i ≤ 4)) (by decide)))
      have ln : (rs.map V.ref).length = (lotsK n i).length := by rw [List.length_map, L.len]
      refine ⟨Nat.zero_le _, fun g0 hg0 => ?_⟩
      obtain ⟨H4, e4, s4, f4⟩ := gen H3 hg0 (.lst [])
      rw [e4]
      clear e4
      have E0 : Lists H3 H4 g0 [] (((lotsK n i).take 0).flatMap (extN n)) := ⟨f4, rfl, by simp, List.nodup_nil, by simp, by simp⟩
      have L4 := L.same s4
      refine ⟨_, rfl, p, rfl, ⟨_, SqL.of L4.top⟩, ?_⟩
      refine for_list (K := K) (a := p) (xs := rs.map V.ref) (fun j σ H' => ∃ (g : Addr) (gs : List Addr) (lv : Option V), σ = [some (.int n), some (.int m), some (.ref p), some (.int (0 + (i : Int))), some (.ref g), lv, none] ∧ Same H3 H' ∧ H3 g = none ∧ Lists H3 H' g gs (((lotsK n i).take j).flatMap (extN n)))
        ⟨g0, [], _, rfl, s4, hg0, E0⟩ (fun j σ H' _ z => by
          obtain ⟨_, _, _, _, s', _⟩ := z
          exact SqL.of (s' _ _ L.top)) ?_ ?_
      · rintro j y σ H5 hj ⟨g, gs, lv, rfl, s5, ng, E5⟩
        rw [List.getElem?_map] at hj
        cases er : rs[j]? with
        | none =>
          rw [er] at hj
          cases hj
        | some r =>
          rw [er] at hj
          cases hj
          have jl : j < (lotsK n i).length := by
            rw [← L.len]
            exact (List.getElem?_eq_some_iff.mp er).1
          obtain ⟨l, hl⟩ : ∃ l, (lotsK n i).getD j [] = l := ⟨_, rfl⟩
          have hr := L.row j r er
          rw [hl] at hr
          have lmem : l ∈ lotsK n i := by
            rw [← hl, List.getD_eq_getElem?_getD, List.getElem?_eq_getElem jl]
            exact List.getElem_mem _
          obtain ⟨lk, lo⟩ := lots_ok n i l lmem
          have lenT : (((lotsK n i).take j).flatMap (extN n)).length ≤ 160000 * 20 := Nat.le_trans (flat_len _ n) (Nat.mul_le_mul (by rw [List.length_take]; omega) n20)
          refine ⟨_, rfl, ?_⟩
          refine tLc_of (iRng2_of (tCons_of (tIf_by (R := fun v H' => v = .int ((loN l : Nat) : Int) ∧ Same H5 H') (fun Q' hq => ?_) ?_)))
          · refine ⟨_, rfl, Nat.zero_le _, fun z hz => ?_⟩
            obtain ⟨H6, e6, s6, f6⟩ := gen H5 hz (.lst [])
            rw [e6]
            clear e6
            have h6 := s6 _ _ (s5 _ _ hr)
            refine ⟨r, z, _, rfl, rfl, SqL.of h6, SqL.of f6, _, rfl, ?_⟩
            by_cases l0 : l = []
            · subst l0
              exact iteF (hq _ _ ⟨rfl, s6⟩)
            · obtain ⟨x, x1, x2⟩ := nat_last l0
              have ne : (natV l).isEmpty = false := by
                cases l with
                | nil => exact (l0 rfl).elim
                | cons a b => rfl
              rw [ne]
              refine iteT ⟨_, rfl, _, rfl, r, _, _, _, rfl, rfl, SqL.of h6, lastK l0 x1, _, _, rfl, rfl, hq _ _ ⟨?_, s6⟩⟩
              rw [x1]
              rfl
          · rintro v H6 ⟨rfl, s6⟩
            refine ⟨_, rfl, _, _, rfl, ⟨by omega, by omega, by omega, by omega⟩, fun D hD => ?_⟩
            have nn : ((n : Int) - ((loN l : Nat) : Int)).toNat = n - loN l := by omega
            rw [nn]
            refine lc_objs (walk_from (a := loN l) (n := n - loN l)) (fun j => .lst (natV ((extN n l).getD j []))) hD (by rw [sizeLine_eq]; omega) (fun _ _ => trivial) ?_ ?_
            · rintro x y H7 H8 N hx s8 ⟨rfl, rfl⟩ hN
              have h8 := s8 _ _ (s6 _ _ (s5 _ _ hr))
              refine ⟨rfl, _, rfl, _, rfl, one_le, fun w hw => ?_⟩
              obtain ⟨H9, e9, s9, f9⟩ := gen H8 hw (.lst [.int ((loN l + x : Nat) : Int)])
              rw [e9]
              clear e9
              refine ⟨r, w, _, _, rfl, rfl, s9 _ _ h8, f9, ?_, fun c hc => ?_⟩
              · unfold natV
                rw [List.length_map, sizeLine_eq]
                show l.length + 1 ≤ _
                omega
              · obtain ⟨Ha, ea, sa, fa⟩ := gen H9 hc (.lst (natV l ++ [.int ((loN l + x : Nat) : Int)]))
                rw [ea]
                refine hN Ha c (s9.trans sa) (s9.free hc) ?_
                rw [fa]
                have ee : (extN n l).getD x [] = l ++ [loN l + x] := by
                  unfold extN
                  rw [List.getD_eq_getElem?_getD, List.getElem?_map, List.getElem?_range hx]
                  rfl
                rw [ee]
                unfold natV
                rw [List.map_append]
                rfl
            · intro H7 qs s7 ob
              have le : n - loN l = (extN n l).length := by
                unfold extN
                rw [List.length_map, List.length_range]
              rw [le] at ob
              have s57 := s6.trans s7
              have top7 := s57 _ _ E5.top
              refine ⟨g, D, _, _, rfl, rfl, top7, ob.top, ?_, fun c hc => ?_⟩
              · rw [List.length_map, List.length_map, E5.len, ob.len, sizeLine_eq]
                have := ext_len n l
                omega
              · obtain ⟨H8, e8, s8, f8⟩ := gen H7 hc (.lst (gs.map V.ref ++ qs.map V.ref))
                rw [e8]
                clear e8
                have E6 : Lists H3 H6 g gs (((lotsK n i).take j).flatMap (extN n)) := E5.same s6
                refine ⟨c, gs ++ qs, _, rfl, s5.trans (s57.trans s8), s5.free (s57.free hc), ?_⟩
                rw [take_flat _ _ jl, hl]
                exact Lists.cat E6 ob (s5.trans s6) s7 s8 hc f8
      · rintro σ H5 ⟨g, gs, lv, rfl, s5, ng, E5⟩
        rw [ln, List.take_length] at E5
        refine ⟨_, rfl, g, gs, _, _, _, rfl, s3.trans s5, s3.free ng, ?_⟩
        exact ⟨E5.top, E5.len, E5.row, E5.nd, E5.out, fun r hr => s3.free (E5.new r hr)⟩
    · rintro σ H3 ⟨p, rs, tv, gv, lv, rfl, s3, np, L⟩
      exact ⟨_, rfl, q p rs H3 s3 np L⟩
end
end K58

namespace K58
open PySem PySem.Spec PyProof.Rows
open L2 hiding spCell
open GL
theorem row_ne {H : Hp} {c g : Addr} {rs : List Addr} {kss : List (List Int)} {n : Nat} (t : Tab H c rs kss) (G : GL.Gen H g n) : c ≠ g := fun z => by
  obtain ⟨x, y, w, e, _⟩ := G
  have := t.top
  rw [z, e] at this
  cases rs with
  | nil => cases this
  | cons r rs => cases this
theorem cpl_ne {H : Hp} {f g : Addr} {ts : List (Addr × Nat × Nat)} {n : Nat} (h : H f = some (.lst (ts.map fun t => V.ref t.1))) (G : GL.Gen H g n) : f ≠ g := fun z => by
  obtain ⟨x, y, w, e, _⟩ := G
  rw [z, e] at h
  cases ts with
  | nil => cases h
  | cons r rs => cases h
theorem tup_ne {H : Hp} {f g : Addr} {xs : List V} {n : Nat} (h : H f = some (.tup xs)) (G : GL.Gen H g n) : f ≠ g := fun z => by
  obtain ⟨x, y, w, e, _⟩ := G
  rw [z, e] at h
  cases h
theorem cplL_at' {kss : List (List Int)} {c : Nat × Nat} (h : c ∈ cplL kss) : c.1 < c.2 ∧ c.2 < kss.length ∧ alikeL kss c.1 c.2 = true := by
  obtain ⟨h1, h2⟩ := List.mem_filter.mp h
  have := (cpl_mem _ _ c.1 c.2).mp h1
  exact ⟨this.2.1, this.2.2, h2⟩
def spLedW : Sp := fun vs H Q _ => ∃ (g a : Addr) (rs : List Addr) (kss : List (List Int)) (many n : Nat), vs = [.ref g, .ref a, .int ((many : Nat) : Int)] ∧ Tab H a rs kss ∧ g ∉ rs ∧ Fine 2 kss ∧ kss.length ≤ 20 ∧ many ≤ 9 ∧ GL.Gen H g (n + 5 * many) ∧
  ∀ (p : Addr) (ps : List Addr) (kus : List (List Int)) (H' : Hp), But g H H' → GL.Gen H' g n → Tab H' p ps kus → g ∉ ps → JK kss kus → Q (.ref p) H'
def spPartW (K : PySem.W.Frag) : Sp := fun vs H Q _ => ∃ (a b : Addr) (rs rs' : List Addr) (kss kts : List (List Int)), vs = [.ref a, .ref b] ∧ Tab H a rs kss ∧ Tab H b rs' kts ∧ Fine 2 kss ∧ Fine 2 kts ∧ 1 ≤ kss.length ∧ kts.length = kss.length ∧ kss.length ≤ 7 ∧
  (AllJ kss kts 3 → AllJ kss kts 4 → ∀ H', Same H H' → Q .non H') ∧ ∀ (p : Addr) (l : List Nat) (H' : Hp), Same H H' → H' p = some (.lst (natV l)) → (PartAt kss kts 3 l ∨ (AllJ kss kts 3 ∧ PartAt kss kts 4 l)) → Q (.ref p) H'
section
variable {P : Program} {w : World} {K : PySem.W.Frag} {mg : Str → Option Value} {base : Heap}
abbrev sLedW : Stmt := topS 43
abbrev nLedW : List Str := ["_law_generator_here", "_law_rows", "_law_many", "_law_here", "_law_turn", "_law_couples_here", "_law_one", "_law_other"]
theorem scLedW : FnScope nLedW ["_law_generator_here", "_law_rows", "_law_many"] (defScope sLedW) := ⟨rfl, rfl, rfl, by decide +kernel, rfl, by decide +kernel, by decide +kernel⟩
theorem ok_ledW {f : Addr} {fd : FuncData} (F : Fun K "_law_led" "_law_led" sLedW f fd) (T : Bi mg) (ULrandom : Use P w K mg base "_law_random" ["_law_generator_here", "_law_bound"] spRandom 2) (ULturned : Use P w K mg base "_law_turned" ["_law_rows", "_law_one", "_law_other"] spTurnW 1) (ULcouples : Use P w K mg base "_law_couples" ["_law_rows"] spCplW 3) : FnOk P w K mg base CX0 4 f fd ["_law_generator_here", "_law_rows", "_law_many"] spLedW := by
  refine F.ok scLedW (fun vs H Q E h => ?_) (fun cdv A outer s H vs Q E hr h => ?_)
  · obtain ⟨g, a, rs, kss, many, n, rfl, _⟩ := h
    rfl
  · obtain ⟨g, a, rs, kss, many, n, rfl, t, gr, fine, n20, m9, G, q⟩ := h
    refine ⟨_, (pss_cons (ps_set (i := 3) scLedW.nd rfl (Or.inl rfl) (pv 1))
      (pss_cons (ps_for PassesOwn.never rfl (pi_range1 (by rfl) T.range (pa_cons (pv 2) pa_nil)) (pg_name (i := 4) scLedW.nd rfl (Or.inl rfl))
        (pss_cons (ps_set (i := 5) scLedW.nd rfl (Or.inl rfl) (pe_use ULcouples hr (by rfl) (pa_cons (pv 3) pa_nil)))
        (pss_one (ps_if (pt_cmpR (op_neNil hr.units) (pv 5) (pe_lst pa_nil) (nomark _))
          (pss_cons (ps_asg (pe_ix ix_list (pv 5) (pe_use ULrandom (hr.mono (by decide)) (by rfl) (pa_cons (pv 0) (pa_cons (pe_callB call_len_seq (by rfl) T.len PySem.boot_len (pa_cons (pv 5) pa_nil)) pa_nil))) (fun _ _ => rfl))
              (pg_tup rfl (pgs_cons (pg_name (i := 6) scLedW.nd rfl (Or.inl rfl)) (pgs_cons (pg_name (i := 7) scLedW.nd rfl (Or.inl rfl)) pgs_nil))))
          (pss_one (ps_set (i := 3) scLedW.nd rfl (Or.inl rfl) (pe_use ULturned (hr.mono (by decide)) (by rfl) (pa_cons (pv 3) (pa_cons (pv 6) (pa_cons (pv 7) pa_nil))))))) pss_nil))))
      (pss_one (ps_ret (pv 3))))), ?_⟩
    refine ⟨_, rfl, ?_⟩
    refine gName_by ?_
    refine ⟨_, rfl, ((many : Nat) : Int), rfl, by omega, by omega, ?_⟩
    refine for_range (lo := 0) (n := (many : Int).toNat) (fun i σ H' => ∃ (p : Addr) (ps : List Addr) (kus : List (List Int)) (e4 e5 e6 e7 : Option V), σ = [some (.ref g), some (.ref a), some (.int ((many : Nat) : Int)), some (.ref p), e4, e5, e6, e7] ∧ But g H H' ∧ Tab H' p ps kus ∧ g ∉ ps ∧ JK kss kus ∧ GL.Gen H' g (n + 5 * (many - i)))
      ⟨a, rs, kss, _, _, _, _, rfl, .refl, t, gr, .refl, G⟩ ?_ ?_
    · rintro i σ H1 hi ⟨p, ps, kus, e4, e5, e6, e7, rfl, b1, t1, g1, J, G1⟩
      have im : i < many := by omega
      have fus := J.fine fine
      have lus := J.len
      refine ⟨_, rfl, p, ps, kus, rfl, t1, fus, by omega, fun cl us H2 s2 ncl C2 eus => ?_⟩
      refine gName_by ?_
      refine ⟨_, rfl, Nat.zero_le _, fun e hE => ?_⟩
      obtain ⟨H3, e3, s3, h3⟩ := gen H2 hE (.lst [])
      rw [e3]
      clear e3
      have C3 := C2.same s3
      have s13 := s2.trans s3
      have t3 := t1.same s13
      have G3 : GL.Gen H3 g (n + 5 * (many - (i + 1)) + 5) := (G1.same s13).less (by omega)
      refine ⟨cl, e, _, rfl, rfl, SqL.of C3.top, SqL.of h3, ?_⟩
      refine ⟨_, rfl, ?_⟩
      by_cases no : us = []
      · subst no
        exact iteF ⟨p, ps, kus, _, _, _, _, rfl, b1.trans (.of s13), t3, g1, J, G3.less (by omega)⟩
      · have ne : (!(us.map fun t => V.ref t.1).isEmpty) = true := by
          cases us with
          | nil => exact absurd rfl no
          | cons _ _ => rfl
        rw [ne]
        refine iteT ?_
        have lm : (us.map fun t => V.ref t.1).length = us.length := List.length_map _
        have u1 : 1 ≤ us.length := List.length_pos_iff.mpr no
        have u2 : us.length ≤ 440 := by
          have h1 := congrArg List.length eus
          rw [List.length_map] at h1
          have h2 := List.length_filter_le (fun c : Nat × Nat => alikeL kus c.1 c.2) (cplTo kus.length kus.length)
          have h3 := cpl_len kus.length kus.length
          have h4 : kus.length * kus.length ≤ 20 * 20 := Nat.mul_le_mul (by omega) (by omega)
          unfold cplL at h1
          omega
        refine ⟨_, rfl, _, rfl, _, rfl, cl, _, rfl, .inl (SqL.of C3.top), g, (us.map fun t => V.ref t.1).length, n + 5 * (many - (i + 1)), rfl, by omega, by omega, G3, fun r H4 r0 r1 G4 b4 => ?_⟩
        obtain ⟨k, rfl⟩ : ∃ k : Nat, r = (k : Int) := ⟨r.toNat, by omega⟩
        have kl : k < us.length := by omega
        obtain ⟨u, hu⟩ : ∃ u, us[k]? = some u := ⟨_, List.getElem?_eq_getElem kl⟩
        have um := List.mem_of_getElem? hu
        have row := b4 _ _ (C3.row u um) (tup_ne (C3.row u um) G3)
        have uc : u.2 ∈ cplL kus := by rw [← eus]; exact List.mem_map_of_mem um
        obtain ⟨c1, c2, al⟩ := cplL_at' uc
        refine ⟨cl, _, _, _, rfl, rfl, SqL.of (b4 _ _ C3.top (cpl_ne C3.top G3)), atI_nat (j := k) (by rw [List.getElem?_map, hu]; rfl), u.1, [.int ((u.2.1 : Nat) : Int), .int ((u.2.2 : Nat) : Int)], rfl, SqT.of row, rfl, _, _, rfl, _, _, rfl, rfl, ?_⟩
        have t4 := t3.but b4 (row_ne t3 G3) g1
        refine ⟨_, rfl, _, rfl, _, rfl, p, ps, kus, u.2.1, u.2.2, rfl, t4, fus, by omega, by omega, c2, by omega, fun x xs H5 s5 nx nxs _ tx => ?_⟩
        rw [show min u.2.1 u.2.2 = u.2.1 by omega, show max u.2.1 u.2.2 = u.2.2 by omega] at tx
        refine gName_by ?_
        exact ⟨x, xs, _, _, _, _, _, rfl, b1.trans ((But.of s13).trans (b4.trans (.of s5))), tx, notin_new G4 nxs, J.step c1 c2 al, G4.same s5⟩
    · rintro σ H1 ⟨p, ps, kus, e4, e5, e6, e7, rfl, b1, t1, g1, J, G1⟩
      exact ⟨_, rfl, q p ps kus H1 b1 (G1.less (by omega)) t1 g1 J⟩
abbrev sPartW : Stmt := topS 40
abbrev nPartW : List Str := ["_law_low", "_law_high", "_law_many", "_law_lot", "_law_first", "_law_second"]
theorem scPartW : FnScope nPartW ["_law_low", "_law_high"] (defScope sPartW) := ⟨rfl, rfl, rfl, by decide +kernel, rfl, by decide +kernel, by decide +kernel⟩
theorem ok_partW {f : Addr} {fd : FuncData} (F : Fun K "_law_parting" "_law_parting" sPartW f fd) (T : Bi mg) (ULwalked : UseG P w K mg base "_law_walked" ["_law_rows"] (spWalkW K) 5) (ULamong : Use P w K mg base "_law_among" ["_law_rows", "_law_people"] spAmongW 2) (ULlots : Use P w K mg base "_law_lots" ["_law_size", "_law_many"] spLots 1) : FnG P w K mg base CX0 6 f fd ["_law_low", "_law_high"] (spPartW K) := by
  refine FnG.mk' F scPartW (fun vs H Q E h => ?_) (fun cdv A outer s H vs Q E hgd hr h => ?_)
  · obtain ⟨a, b, rs, rs', kss, kts, rfl, _⟩ := h
    rfl
  · obtain ⟨a, b, rs, rs', kss, kts, rfl, t, t2, fine, fine2, one, l, n7, qn, qp⟩ := h
    have hgd' : (A.deeper (envOfC "_law_parting" (defScope sPartW) s.heap.objs.size f cdv)).guards = some [] := hgd
    refine ⟨_, (pss_cons (ps_for PassesOwn.never rfl (pi_list (pe_lst (pa_cons pe_int (pa_cons pe_int pa_nil)))) (pg_name (i := 2) scPartW.nd rfl (Or.inl rfl))
        (pss_one (ps_for PassesOwn.never rfl (pi_list (pe_use ULlots (hr.mono (by decide)) (by rfl) (pa_cons (pe_callB call_len_seq (by rfl) T.len PySem.boot_len (pa_cons (pv 0) pa_nil)) (pa_cons (pv 2) pa_nil)))) (pg_name (i := 3) scPartW.nd rfl (Or.inl rfl))
          (pss_cons (ps_par (i := 4) (j := 5) rfl scPartW.nd rfl rfl (by decide) rfl rfl (pa_cons (pe_use ULamong (hr.mono (by decide)) (by rfl) (pa_cons (pv 0) (pa_cons (pv 3) pa_nil))) (pa_cons (pe_use ULamong (hr.mono (by decide)) (by rfl) (pa_cons (pv 1) (pa_cons (pv 3) pa_nil))) pa_nil)) (by rfl))
          (pss_one (ps_if (PW.pt (pw_and (pt_cmpR (op_neD hr.units) (pv 4) (pv 5) (nomark _)) (pw_and1 (pt_cmp (pc_dnotin (hu_of hr) (pe_callB (call_repD hgd' hr.units) (by rfl) T.repr (by decide +kernel) (pa_cons (pv 5) pa_nil)) (pe_ix ix_list (pe_useG ULwalked hgd' hr (by rfl) (pa_cons (pv 4) pa_nil)) pe_int (fun _ _ => rfl)))))))
            (pss_one (ps_ret (pv 3))) pss_nil))))))
      (pss_one (ps_ret pe_non))), ?_⟩
    have lr1 : (rs.map V.ref).length = kss.length := by rw [List.length_map, t.len]
    have fits : ∀ {z : List (List Int)}, Fine 2 z → z.length ≤ 5 → _ := fun {z} f l => (nice_tab f (by decide) (by omega)).fits
    refine ⟨(by show 2 ≤ sizeLine; decide), fun W hW => ?_⟩
    obtain ⟨H1, e1, s1, f1⟩ := gen H hW (.lst [.int 3, .int 4])
    rw [e1]
    clear e1
    refine ⟨W, rfl, ⟨_, SqL.of f1⟩, ?_⟩
    refine for_list (K := K) (a := W) (xs := [.int 3, .int 4]) (fun i σ H' => ∃ e2 e3 e4 e5 : Option V, σ = [some (.ref a), some (.ref b), e2, e3, e4, e5] ∧ Same H1 H' ∧ ∀ j, j < i → AllJ kss kts (3 + j)) ⟨_, _, _, _, rfl, .refl _, fun j h => absurd h (Nat.not_lt_zero _)⟩ (fun i σ H' _ z => by
      obtain ⟨_, _, _, _, _, s', _⟩ := z
      exact SqL.of (s' _ _ f1)) ?_ ?_
    · rintro i v σ H2 hv ⟨e2, e3, e4, e5, rfl, s2, old⟩
      have hi2 : i < 2 := (List.getElem?_eq_some_iff.mp hv).1
      have ev : v = .int ((3 + i : Nat) : Int) := by
        match i, hi2, hv with
        | 0, _, hv => exact (Option.some.inj hv).symm
        | 1, _, hv => exact (Option.some.inj hv).symm
      subst ev
      refine gName_by ?_
      have s02 := s1.trans s2
      refine ⟨_, rfl, a, _, rfl, .inl (SqL.of (s02 _ _ t.top)), _, rfl, kss.length, 3 + i, by rw [lr1]; rfl, by omega, by omega, fun p ads H3 s3 np L => ?_⟩
      rw [lots_choices n7 (by omega)] at L
      refine ⟨p, rfl, ⟨_, SqL.of L.top⟩, ?_⟩
      refine for_list (K := K) (a := p) (xs := ads.map V.ref) (fun k σ H' => ∃ e3 e4 e5 : Option V, σ = [some (.ref a), some (.ref b), some (.int ((3 + i : Nat) : Int)), e3, e4, e5] ∧ Same H3 H' ∧ ∀ (j : Nat) (l' : List Nat), j < k → (Cmb.choices kss.length (3 + i))[j]? = some l' → JK (amongK kss l') (amongK kts l')) ⟨_, _, _, rfl, .refl _, fun j l' h => absurd h (Nat.not_lt_zero _)⟩ (fun i σ H' _ z => by
        obtain ⟨_, _, _, _, s', _⟩ := z
        exact SqL.of (s' _ _ L.top)) ?_ ?_
      · rintro k v σ H4 hv ⟨e3, e4, e5, rfl, s4, done⟩
        rw [List.getElem?_map] at hv
        cases ea : ads[k]? with
        | none => rw [ea] at hv; cases hv
        | some ad =>
          rw [ea] at hv
          cases hv
          have kl : k < (Cmb.choices kss.length (3 + i)).length := by
            rw [← L.len]
            exact (List.getElem?_eq_some_iff.mp ea).1
          obtain ⟨l0, el⟩ : ∃ l0, (Cmb.choices kss.length (3 + i))[k]? = some l0 := ⟨_, List.getElem?_eq_getElem kl⟩
          have hL := L.row k ad ea
          rw [List.getD_eq_getElem?_getD, el] at hL
          have hL : H3 ad = some (.lst (natV l0)) := hL
          obtain ⟨LO, len0⟩ := lot_choices.mp (List.mem_of_getElem? el)
          have LO2 : LotOf kts.length l0 := by rw [l]; exact LO
          have s04 := s02.trans (s3.trans s4)
          refine gName_by ?_
          refine ⟨_, rfl, _, rfl, a, ad, rs, kss, l0, rfl, t.same s04, fine, by omega, s4 _ _ hL, LO, fun f1 fs1 H5 s5 nf1 nfs1 tf1 => ?_⟩
          refine ⟨_, rfl, _, rfl, b, ad, rs', kts, l0, rfl, t2.same (s04.trans s5), fine2, by omega, s5 _ _ (s4 _ _ hL), LO2, fun f2 fs2 H6 s6 nf2 nfs2 tf2 => ⟨_, _, rfl, ?_⟩⟩
          have tf1 := tf1.same s6
          have ff1 := among_fine fine LO
          have ff2 := among_fine fine2 LO2
          have len1 : (amongK kss l0).length = 3 + i := by rw [among_len, len0]
          have len2 : (amongK kts l0).length = 3 + i := by rw [among_len, len0]
          have s36 := s4.trans (s5.trans s6)
          have ext : ∀ (X : Prop), X → (∀ (j : Nat) (l' : List Nat), j < k → (Cmb.choices kss.length (3 + i))[j]? = some l' → JK (amongK kss l') (amongK kts l')) → JK (amongK kss l0) (amongK kts l0) → ∀ (j : Nat) (l' : List Nat), j < k + 1 → (Cmb.choices kss.length (3 + i))[j]? = some l' → JK (amongK kss l') (amongK kts l') := fun _ _ done J j l' hj hl' => by
            by_cases c : j < k
            · exact done j l' c hl'
            · obtain rfl : j = k := by omega
              rw [el] at hl'
              cases hl'
              exact J
          refine ⟨_, rfl, _, rfl, _, _, tf1.dp, tf2.dp, shaped_tab _, shaped_tab _, ?_⟩
          rw [eqv_tab]
          refine ⟨_, rfl, ?_⟩
          by_cases eq : amongK kss l0 = amongK kts l0
          · rw [decide_eq_true eq]
            refine iteF (iteF ?_)
            exact ⟨_, _, _, rfl, s36, ext True trivial done (by rw [← eq]; exact .refl)⟩
          · rw [decide_eq_false eq]
            refine iteT ?_
            have fi := fits ff2 (by omega)
            have aH : H6 a = some (.lst (rs.map V.ref)) := (s04.trans (s5.trans s6)) _ _ t.top
            have fa : f1 ≠ a := fun z => by
              rw [z, s04 _ _ t.top] at nf1
              cases nf1
            have fas : a ∉ fs1 := fun z => by
              have := nfs1 a z
              rw [s04 _ _ t.top] at this
              cases this
            refine ⟨_, rfl, .ref f2, tabP (amongK kts l0), rfl, tf2.dt, fi.1, fi.2.1, fi.2.2, ?_⟩
            refine ⟨_, rfl, f1, fs1, amongK kss l0, a, _, rfl, aH, fa, fas, tf1, ff1, by omega, by omega, fun pw Dk qv qs kvs H7 s7 hpw mem ql dq hDk kn => ?_⟩
            refine ⟨pw, _, _, _, rfl, rfl, SqL.of hpw, atI_nat (j := 1) rfl, Dk, _, rfl, DGet.k (k := Sum.inr (txtK (amongK kts l0))) hDk, _, rfl, ?_⟩
            obtain ⟨k1, k2⟩ := kn (amongK kts l0) ff2 (by rw [len1, len2])
            by_cases J : JK (amongK kss l0) (amongK kts l0)
            · rw [k1 J]
              refine iteF ?_
              exact ⟨_, _, _, rfl, s36.trans s7, ext True trivial done J⟩
            · rw [k2 J]
              refine iteT ⟨_, rfl, ?_⟩
              have s07 := s04.trans (s5.trans (s6.trans s7))
              have hl7 : H7 ad = some (.lst (natV l0)) := (s36.trans s7) _ _ hL
              match i, hi2, old, el, done with
              | 0, _, old, el, done => exact qp ad l0 H7 s07 hl7 (.inl ⟨k, el, J, done⟩)
              | 1, _, old, el, done => exact qp ad l0 H7 s07 hl7 (.inr ⟨old 0 (by decide), k, el, J, done⟩)
      · rintro σ H4 ⟨e3, e4, e5, rfl, s4, done⟩
        rw [List.length_map, L.len] at done
        refine ⟨_, _, _, _, rfl, s2.trans (s3.trans s4), fun j hj => ?_⟩
        by_cases c : j < i
        · exact old j c
        · obtain rfl : j = i := by omega
          intro l' hl'
          obtain ⟨k, hk⟩ := List.mem_iff_getElem?.mp hl'
          exact done k l' (List.getElem?_eq_some_iff.mp hk).1 hk
    · rintro σ H2 ⟨e2, e3, e4, e5, rfl, s2, old⟩
      exact qn (old 0 (by decide)) (old 1 (by decide)) H2 (s1.trans s2)
end
end K58

namespace K58
open PySem PySem.Spec PyProof.Rows
open L2 hiding spCell
open GL
def spBetwW (K : PySem.W.Frag) : Sp := fun vs H Q _ => ∃ (a b : Addr) (rs rs' : List Addr) (kss kts : List (List Int)), vs = [.ref a, .ref b] ∧ Tab H a rs kss ∧ Tab H b rs' kts ∧ Fine 2 kss ∧ Fine 2 kts ∧ 1 ≤ kss.length ∧ kts.length = kss.length ∧ kss.length ≤ 7 ∧ JK kss kts ∧ ∀ H', Same H H' → Q (.bl true) H'
theorem nobetw {kss kts : List (List Int)} {a b : Nat} (f : Fine 2 kss) (g : Fine 2 kts) (e : kts.length = kss.length) (F3 : Sub kss.length 3 kss kts) (ha : a < kss.length) (hb : b < kss.length) (ab : a ≠ b) (w : wonB kss a b = true) (v : wonB kts a b = false)
    (no : ∀ m, m < kss.length → m ≠ a → m ≠ b → wonB kss a m = true → wonB kss m b = true → False) : alikeL kss a b = true := by
  refine alikeL_iff.mpr fun m hm ma mb => ?_
  cases x : wonB kss m a with
  | true =>
    cases y : wonB kss m b with
    | true => rfl
    | false =>
      have y' : wonB kss b m = true := by rw [won_anti f hm hb mb, y]; rfl
      have := (ring_same f e F3 ha hb hm ab (Ne.symm ma) (Ne.symm mb) w y' x).1
      rw [v] at this
      cases this
  | false =>
    cases y : wonB kss m b with
    | false => rfl
    | true =>
      have x' : wonB kss a m = true := by rw [won_anti f hm ha ma, x]; rfl
      exact absurd (no m hm ma mb x' y) id
section
variable {P : Program} {w : World} {K : PySem.W.Frag} {mg : Str → Option Value} {base : Heap}
abbrev sBetwW : Stmt := topS 42
abbrev nBetwW : List Str := ["_law_low", "_law_high", "_law_alike_here", "_law_one", "_law_other", "_law_first", "_law_second", "_law_others", "_law_person", "_law_between"]
theorem scBetwW : FnScope nBetwW ["_law_low", "_law_high"] (defScope sBetwW) := ⟨rfl, rfl, rfl, by decide +kernel, rfl, by decide +kernel, by decide +kernel⟩
theorem ok_betwW {f : Addr} {fd : FuncData} (F : Fun K "_law_between_right" "_law_between_right" sBetwW f fd) (T : Bi mg) (Uleaguecouples : Use P w K mg base "league_couples" ["league"] spLCpl 7) (ULwon : Use P w K mg base "_law_won" ["_law_rows", "_law_one", "_law_other"] spWon 1) : FnOk P w K mg base CX0 8 f fd ["_law_low", "_law_high"] (spBetwW K) := by
  refine F.ok scBetwW (fun vs H Q E h => ?_) (fun cdv A outer s H vs Q E hr h => ?_)
  · obtain ⟨a, b, rs, rs', kss, kts, rfl, _⟩ := h
    rfl
  · obtain ⟨a, b, rs, rs', kss, kts, rfl, t, t2, fine, fine2, one, l, n7, J, q⟩ := h
    have h65 : (A.deeper (envOfC "_law_between_right" (defScope sBetwW) s.heap.objs.size f cdv)).units + 65 < cLine := by
      have := hr.un
      omega
    refine ⟨_, (pss_cons (ps_set (i := 2) scBetwW.nd rfl (Or.inl rfl) (pe_use Uleaguecouples hr (by rfl) (pa_cons (pv 0) pa_nil)))
      (pss_cons (ps_for PassesOwn.never rfl (pi_range1 (by rfl) T.range (pa_cons (pe_callB call_len_seq (by rfl) T.len PySem.boot_len (pa_cons (pv 0) pa_nil)) pa_nil)) (pg_name (i := 3) scBetwW.nd rfl (Or.inr rfl))
        (pss_one (ps_for PassesOwn.never rfl (pi_range2 (by rfl) T.range (pa_cons (pe_op op_add (pv 3) pe_int) (pa_cons (pe_callB call_len_seq (by rfl) T.len PySem.boot_len (pa_cons (pv 0) pa_nil)) pa_nil))) (pg_name (i := 4) scBetwW.nd rfl (Or.inr rfl))
          (pss_cons (ps_asg (pe_ifExp (pt_val (pe_use ULwon (hr.mono (by decide)) (by rfl) (pa_cons (pv 0) (pa_cons (pv 3) (pa_cons (pv 4) pa_nil))))) (pe_tup (pa_cons (pv 3) (pa_cons (pv 4) pa_nil))) (pe_tup (pa_cons (pv 4) (pa_cons (pv 3) pa_nil))))
              (pg_tup rfl (pgs_cons (pg_name (i := 5) scBetwW.nd rfl (Or.inr rfl)) (pgs_cons (pg_name (i := 6) scBetwW.nd rfl (Or.inr rfl)) pgs_nil))))
          (pss_cons (ps_setLc (i := 7) (own := [("_law_person", 8)]) (g := (gName 8)) (tt := (tTest (tOp (rIn K true) (tVar 8) (tLst (tCons (tVar 3) (tCons (tVar 4) tNil)))))) (te := (tVar 8)) rfl scBetwW.nd rfl rfl (sw_true rfl rfl rfl (by decide +kernel)) (pi_range1 (by rfl) T.range (pa_cons (pe_callB call_len_seq (by rfl) T.len PySem.boot_len (pa_cons (pv 0) pa_nil)) pa_nil))
              (blkOk_by (N := nBetwW) (sc := (defScope sBetwW)) (by decide +kernel)) (fun _ _ _ _ _ => (pg_name (i := 8) scBetwW.nd rfl (Or.inl rfl))) (fun _ _ _ _ _ => by exact (pts_one (pt_cmpR op_notIn_seq (pv 8) (pe_lst (pa_cons (pv 3) (pa_cons (pv 4) pa_nil))) (by rfl))))
              (fun _ _ _ _ _ => by exact (pv 8)))
          (pss_cons (ps_setLc (i := 9) (own := [("_law_person", 8)]) (g := (gName 8)) (tt := (tAnd (tB (tCall spWon [] E0 (tCons (tVar 0) (tCons (tVar 5) (tCons (tVar 8) tNil))))) (tB (tCall spWon [] E0 (tCons (tVar 0) (tCons (tVar 8) (tCons (tVar 6) tNil))))))) (te := (tVar 8)) rfl scBetwW.nd rfl rfl (sw_true rfl rfl rfl (by decide +kernel)) (pi_list (pv 7))
              (blkOk_by (N := nBetwW) (sc := (defScope sBetwW)) (by decide +kernel)) (fun _ _ _ _ _ => (pg_name (i := 8) scBetwW.nd rfl (Or.inl rfl))) (fun _ _ _ _ _ => by exact (pts_one (PW.pt (pw_and (pt_val (pe_use ULwon (hr.mono (by decide)) (by rfl) (pa_cons (pv 0) (pa_cons (pv 5) (pa_cons (pv 8) pa_nil))))) (pw_and1 (pt_val (pe_use ULwon (hr.mono (by decide)) (by rfl) (pa_cons (pv 0) (pa_cons (pv 8) (pa_cons (pv 6) pa_nil))))))))))
              (fun _ _ _ _ _ => by exact (pv 8)))
          (pss_one (ps_if (PW.pt (pw_and (pt_cmpR op_ne (pe_ix ix_list (pe_ix ix_list (pv 0) (pv 4) (fun _ _ => rfl)) (pv 3) (fun _ _ => rfl)) (pe_ix ix_list (pe_ix ix_list (pv 1) (pv 4) (fun _ _ => rfl)) (pv 3) (fun _ _ => rfl)) (nomark _)) (pw_and (pt_cmpR (op_eqNil hr.units) (pv 9) (pe_lst pa_nil) (nomark _)) (pw_and1 (pt_cmpR (op_notInD h65) (pe_tup (pa_cons (pv 3) (pa_cons (pv 4) pa_nil))) (pv 2) (by rfl))))))
            (pss_one (ps_ret pe_bl)) pss_nil))))))))
      (pss_one (ps_ret pe_bl)))), ?_⟩
    have lr : (rs.map V.ref).length = kss.length := by rw [List.length_map, t.len]
    refine ⟨_, rfl, a, rs, kss, rfl, t, fine, one, by omega, fun C cs H1 s1 nC CC ec => ?_⟩
    refine gName_by ?_
    refine ⟨_, rfl, a, _, rfl, .inl (SqL.of (s1 _ _ t.top)), _, rfl, by omega, by omega, ?_⟩
    rw [lr]
    refine for_range (lo := 0) (n := (kss.length : Int).toNat) (fun i σ H' => ∃ e3 e4 e5 e6 e7 e9 : Option V, σ = [some (.ref a), some (.ref b), some (.ref C), e3, e4, e5, e6, e7, none, e9] ∧ Same H1 H') ⟨_, _, _, _, _, _, rfl, .refl _⟩ ?_ ?_
    · rintro i σ H2 hi ⟨e3, e4, e5, e6, e7, e9, rfl, s2⟩
      have i0 : (0 + (i : Int)) = ((i : Nat) : Int) := Int.zero_add _
      rw [i0]
      have il : i < kss.length := by omega
      refine ⟨_, rfl, _, _, rfl, rfl, _, rfl, a, _, rfl, .inl (SqL.of (s2 _ _ (s1 _ _ t.top))), _, _, rfl, ?_⟩
      rw [lr]
      refine ⟨⟨by omega, by omega, by omega, by omega⟩, ?_⟩
      refine for_range (lo := ((i : Nat) : Int) + 1) (n := ((kss.length : Int) - (((i : Nat) : Int) + 1)).toNat) (fun j σ H' => ∃ e4 e5 e6 e7 e9 : Option V, σ = [some (.ref a), some (.ref b), some (.ref C), some (.int ((i : Nat) : Int)), e4, e5, e6, e7, none, e9] ∧ Same H1 H') ⟨_, _, _, _, _, rfl, s2⟩ ?_ ?_
      · rintro j σ H3 hj ⟨e4, e5, e6, e7, e9, rfl, s3⟩
        obtain ⟨m, em⟩ : ∃ m : Nat, m = i + 1 + j := ⟨_, rfl⟩
        have j0 : ((i : Nat) : Int) + 1 + (j : Int) = ((m : Nat) : Int) := by omega
        rw [j0]
        have im : i < m := by omega
        have ml : m < kss.length := by omega
        have t3 := t.same (s1.trans s3)
        refine gName_by ?_
        refine tSeq_of (tAsg_of (tIf_by (R := fun v H' => ∃ (T : Addr) (x y : Nat), v = .ref T ∧ H' T = some (.tup [.int ((x : Nat) : Int), .int ((y : Nat) : Int)]) ∧ Same H3 H' ∧ ((x = i ∧ y = m) ∨ (x = m ∧ y = i)) ∧ wonB kss x y = true) (fun Q' hq => ?_) ?_))
        · refine ⟨_, rfl, _, rfl, _, rfl, a, rs, kss, i, m, rfl, t3, fine, il, ml, by omega, ?_⟩
          refine ⟨_, rfl, ?_⟩
          cases w : wonB kss i m with
          | true =>
            refine iteT ⟨_, rfl, _, rfl, (by show 2 ≤ sizeLine; decide), fun T hT => ?_⟩
            exact hq _ _ ⟨T, i, m, rfl, upd_same, same_new hT, .inl ⟨rfl, rfl⟩, w⟩
          | false =>
            refine iteF ⟨_, rfl, _, rfl, (by show 2 ≤ sizeLine; decide), fun T hT => ?_⟩
            exact hq _ _ ⟨T, m, i, rfl, upd_same, same_new hT, .inr ⟨rfl, rfl⟩, by rw [won_anti fine il ml (by omega), w]; rfl⟩
        rintro v H4 ⟨T, x, y, rfl, hT, s4, xy, wxy⟩
        have xl : x < kss.length := by omega
        have yl : y < kss.length := by omega
        have xny : x ≠ y := by omega
        refine ⟨T, [.int ((x : Nat) : Int), .int ((y : Nat) : Int)], rfl, SqT.of hT, rfl, _, _, rfl, _, _, rfl, rfl, ?_⟩
        have t4 := t3.same s4
        refine ⟨_, rfl, a, _, rfl, .inl (SqL.of t4.top), _, rfl, by omega, by omega, fun D hD => ?_⟩
        rw [lr]
        refine lc_keep (walk_nat (n := (kss.length : Int).toNat)) (fun p => !decide (p ∈ [i, m])) (fun p => .int ((p : Nat) : Int)) hD (by rw [sizeLine_eq]; omega) (fun _ _ => trivial) ?_ ?_
        · rintro p x' H5 H6 N M hp s5 ⟨rfl, rfl⟩ hN hM
          refine ⟨rfl, ?_⟩
          refine ⟨_, rfl, _, rfl, _, rfl, (by show 2 ≤ sizeLine; decide), fun T2 hT2 => ?_⟩
          refine ⟨T2, natV [i, m], rfl, .inl (SqL.of upd_same), rfl, flat_nat _, _, rfl, ?_⟩
          show ite ((!inV (.int (p : Nat)) (natV [i, m])) = true) _ _
          rw [inV_nat]
          cases e : (!decide (p ∈ [i, m])) with
          | true => exact iteT ⟨_, rfl, hN _ e (same_new hT2)⟩
          | false => exact iteF (hM _ e (same_new hT2))
        · intro H5 s5 h5
          obtain ⟨ol, hol⟩ : ∃ l, l = (List.range kss.length).filter fun p => !decide (p ∈ [i, m]) := ⟨_, rfl⟩
          have h5' : H5 D = some (.lst (natV ol)) := by
            rw [h5, hol]
            rfl
          have low : ∀ p ∈ ol, p < kss.length ∧ p ≠ i ∧ p ≠ m := fun p hp => by
            rw [hol, List.mem_filter] at hp
            have n1 := hp.2
            exact ⟨List.mem_range.mp hp.1, fun z => by simp [z] at n1, fun z => by simp [z] at n1⟩
          have lol : ol.length ≤ kss.length := by
            rw [hol]
            have := List.length_filter_le (fun p => !decide (p ∈ [i, m])) (List.range kss.length)
            rw [List.length_range] at this
            exact this
          clear h5
          have t5 := t4.same s5
          refine gName_by ?_
          refine ⟨_, rfl, D, rfl, ⟨_, SqL.of h5'⟩, fun E0 hE => ?_⟩
          have onat : (natV ol).length = ol.length := natV_len ol
          refine lc_keep (walk_list (K := K) (a := D) (xs := natV ol)) (fun k => wonB kss x (ol.getD k 0) && wonB kss (ol.getD k 0) y) (fun k => .int ((ol.getD k 0 : Nat) : Int)) hE (by rw [onat, sizeLine_eq]; omega) (fun H' s => SqL.of (s _ _ h5')) ?_ ?_
          · rintro k x' H6 H7 N M hk s6 ⟨rfl, ex⟩ hN hM
            rw [onat] at hk
            have ex : (natV ol)[k]? = some x' := ex
            unfold natV at ex
            rw [List.getElem?_map, lotW_at hk] at ex
            cases ex
            obtain ⟨p1, p2, p3⟩ := low (ol.getD k 0) (by rw [List.getD_eq_getElem?_getD, List.getElem?_eq_getElem hk]; exact List.getElem_mem hk)
            have t7 := t5.same s6
            refine ⟨rfl, ?_⟩
            refine ⟨_, rfl, _, rfl, _, rfl, a, rs, kss, x, ol.getD k 0, rfl, t7, fine, xl, p1, by omega, _, rfl, ?_⟩
            cases u : wonB kss x (ol.getD k 0) with
            | false => exact iteF (iteF (hM _ (by rw [u]; rfl) (Same.refl _)))
            | true =>
              refine iteT ?_
              refine ⟨_, rfl, _, rfl, _, rfl, a, rs, kss, ol.getD k 0, y, rfl, t7, fine, p1, yl, by omega, _, rfl, ?_⟩
              cases u2 : wonB kss (ol.getD k 0) y with
              | false => exact iteF (hM _ (by rw [u, u2]; rfl) (Same.refl _))
              | true => exact iteT ⟨_, rfl, hN _ (by rw [u, u2]; rfl) (Same.refl _)⟩
          · intro H6 s6 h6
            rw [onat] at h6
            refine gName_by ?_
            have s46 := s4.trans (s5.trans s6)
            have s16 := s3.trans s46
            have s06 := s1.trans s16
            have t6 := t.same s06
            have t26 := t2.same s06
            obtain ⟨r1, k1, g1, g2, g3⟩ := t6.entry fine im ml
            obtain ⟨r2, k2, g4, g5, g6⟩ := t26.entry fine2 im (by omega)
            refine ⟨_, rfl, _, rfl, a, _, _, _, rfl, rfl, SqL.of t6.top, g1, _, rfl, r1, _, _, _, rfl, rfl, SqL.of g2, g3, ?_⟩
            refine ⟨_, rfl, _, rfl, b, _, _, _, rfl, rfl, SqL.of t26.top, g4, _, rfl, r2, _, _, _, rfl, rfl, SqL.of g5, g6, rfl, _, rfl, ?_⟩
            by_cases eq : tieN kss m i = tieN kts m i
            · rw [eq, decide_eq_true rfl]
              exact iteF (iteF ⟨_, _, _, _, _, rfl, s16⟩)
            · rw [decide_eq_false (fun z => eq (V.int.inj z))]
              refine iteT ?_
              refine ⟨_, rfl, Nat.zero_le _, fun e0 he0 => ?_⟩
              obtain ⟨H7, e7', s7, f7⟩ := gen H6 he0 (.lst [])
              rw [e7']
              clear e7'
              refine ⟨E0, e0, _, rfl, rfl, SqL.of (s7 _ _ h6), SqL.of f7, ?_⟩
              refine ⟨_, rfl, ?_⟩
              cases em0 : (((List.range ol.length).filter fun k => wonB kss x (ol.getD k 0) && wonB kss (ol.getD k 0) y).map fun k => V.int ((ol.getD k 0 : Nat) : Int)).isEmpty with
              | false => exact iteF (iteF ⟨_, _, _, _, _, rfl, s16.trans s7⟩)
              | true =>
                refine iteT ?_
                refine ⟨_, rfl, _, rfl, (by show 2 ≤ sizeLine; decide), fun T3 hT3 => ?_⟩
                obtain ⟨H8, e8', s8, f8⟩ := gen H7 hT3 (.tup (pairT (i, m)))
                rw [show upd H7 T3 (.tup [V.int ((i : Nat) : Int), V.int ((m : Nat) : Int)]) = H8 from e8']
                clear e8'
                have CC8 := CC.same (s16.trans (s7.trans s8))
                have dC := CC8.dp (K := K)
                rw [ec] at dC
                refine ⟨_, rfl, cT (i, m), (cplL kss).map cT, dp_pair f8, dC, shaped_cT _, shaped_cpl _, ?_⟩
                rw [any_cpl]
                have nil := List.filter_eq_nil_iff.mp (List.map_eq_nil_iff.mp (List.isEmpty_iff.mp em0))
                have tw : tieN kss x y ≠ tieN kts x y := by
                  rcases xy with ⟨rfl, rfl⟩ | ⟨rfl, rfl⟩
                  · rw [tieN_comm kss, tieN_comm kts]
                    exact eq
                  · exact eq
                have v : wonB kts x y = false := by
                  have := (tie_won fine fine2 l xl yl xny).mp tw
                  rw [wxy] at this
                  exact Bool.eq_false_iff.mpr this
                have al : alikeL kss x y = true := by
                  refine nobetw fine fine2 l (fun l' L' _ => jk_among fine L' J) xl yl xny wxy v fun p pl px py w1 w2 => ?_
                  have pm : p ∈ ol := by
                    rw [hol]
                    refine List.mem_filter.mpr ⟨List.mem_range.mpr pl, ?_⟩
                    have : p ∉ [i, m] := fun z => by
                      simp only [List.mem_cons, List.not_mem_nil, or_false] at z
                      omega
                    rw [decide_eq_false this]
                    rfl
                  obtain ⟨k, hk, ek⟩ := mem_lotW pm
                  have ek : ol.getD k 0 = p := ek
                  have := nil k (List.mem_range.mpr hk)
                  rw [ek, w1, w2] at this
                  exact this rfl
                have mem : (i, m) ∈ cplL kss := by
                  refine List.mem_filter.mpr ⟨(cpl_mem _ _ _ _).mpr ⟨il, im, ml⟩, ?_⟩
                  rcases xy with ⟨rfl, rfl⟩ | ⟨rfl, rfl⟩
                  · exact al
                  · rw [alikeL_comm]
                    exact al
                rw [decide_eq_true mem]
                refine ⟨_, rfl, iteF ?_⟩
                exact ⟨_, _, _, _, _, rfl, s16.trans (s7.trans s8)⟩
      · rintro σ H3 ⟨e4, e5, e6, e7, e9, rfl, s3⟩
        exact ⟨_, _, _, _, _, _, rfl, s3⟩
    · rintro σ H2 ⟨e3, e4, e5, e6, e7, e9, rfl, s2⟩
      exact q _ (s1.trans s2)
end
end K58

namespace K58
open PySem PySem.Spec PyProof.Rows
open L2 hiding spCell
open GL
def Part (kss kts : List (List Int)) (l : List Nat) : Prop := PartAt kss kts 3 l ∨ (AllJ kss kts 3 ∧ PartAt kss kts 4 l)
theorem partAt_one {kss kts : List (List Int)} {m : Nat} {l l' : List Nat} (h : PartAt kss kts m l) (h' : PartAt kss kts m l') : l = l' := by
  obtain ⟨i, e, no, old⟩ := h
  obtain ⟨i', e', no', old'⟩ := h'
  by_cases c : i < i'
  · exact absurd (old' i l c e) no
  by_cases c' : i' < i
  · exact absurd (old i' l' c' e') no'
  obtain rfl : i = i' := by omega
  rw [e] at e'
  exact Option.some.inj e'
theorem part_all {kss kts : List (List Int)} {m : Nat} {l : List Nat} (h : PartAt kss kts m l) (a : AllJ kss kts m) : False := by
  obtain ⟨i, e, no, _⟩ := h
  exact no (a l (List.mem_of_getElem? e))
theorem part_one {kss kts : List (List Int)} {l l' : List Nat} (h : Part kss kts l) (h' : Part kss kts l') : l = l' := by
  rcases h with h | ⟨a, h⟩ <;> rcases h' with h' | ⟨a', h'⟩
  · exact partAt_one h h'
  · exact (part_all h a').elim
  · exact (part_all h' a).elim
  · exact partAt_one h h'
theorem jk_sym {kss kts : List (List Int)} {l : List Nat} (f : Fine 2 kss) (e : kts.length = kss.length) (L : LotOf kss.length l) (h : JK (amongK kss l) (amongK kts l)) : JK (amongK kts l) (amongK kss l) := h.symm (among_fine f L)
theorem partAt_sym {kss kts : List (List Int)} {m : Nat} {l : List Nat} (f : Fine 2 kss) (g : Fine 2 kts) (e : kts.length = kss.length) (h : PartAt kss kts m l) : PartAt kts kss m l := by
  obtain ⟨i, ei, no, old⟩ := h
  refine ⟨i, by rw [e]; exact ei, fun z => no ?_, fun j l' hj hl' => ?_⟩
  · have L := (lot_choices.mp (List.mem_of_getElem? ei)).1
    exact jk_sym g e.symm (by rw [e]; exact L) z
  · rw [e] at hl'
    have L := (lot_choices.mp (List.mem_of_getElem? hl')).1
    exact jk_sym f e L (old j l' hj hl')
theorem part_sym {kss kts : List (List Int)} {l : List Nat} (f : Fine 2 kss) (g : Fine 2 kts) (e : kts.length = kss.length) (h : Part kss kts l) : Part kts kss l := by
  rcases h with h | ⟨a, h⟩
  · exact .inl (partAt_sym f g e h)
  · refine .inr ⟨fun l' hl' => ?_, partAt_sym f g e h⟩
    rw [e] at hl'
    exact jk_sym f e (lot_choices.mp hl').1 (a l' hl')
theorem part_no {kss kts : List (List Int)} {l : List Nat} (f : Fine 2 kss) (g : Fine 2 kts) (e : kts.length = kss.length) (h : Part kss kts l) : ¬ JK kss kts := fun J => by
  obtain ⟨s3, s4⟩ := (fours f g e).mp J
  rcases h with h | ⟨_, h⟩
  · exact part_all h (all_sub.mpr s3)
  · exact part_all h (all_sub.mpr s4)
theorem part_low {kss kts : List (List Int)} {l : List Nat} (h : Part kss kts l) : LotOf kss.length l ∧ l.length ≤ 4 := by
  rcases h with ⟨i, e, _⟩ | ⟨_, i, e, _⟩
  · obtain ⟨L, n⟩ := lot_choices.mp (List.mem_of_getElem? e)
    exact ⟨L, by omega⟩
  · obtain ⟨L, n⟩ := lot_choices.mp (List.mem_of_getElem? e)
    exact ⟨L, by omega⟩
def spPairW (K : PySem.W.Frag) : Sp := fun vs H Q _ => ∃ (a b : Addr) (rs rs' : List Addr) (kss kts : List (List Int)) (jv : V), vs = [.ref a, .ref b, jv] ∧ Tab H a rs kss ∧ Tab H b rs' kts ∧ Fine 2 kss ∧ Fine 2 kts ∧ 1 ≤ kss.length ∧ kts.length = kss.length ∧ kss.length ≤ 7 ∧ (jv = .non ∨ ∃ v : Bool, jv = .bl v ∧ (v = true ↔ JK kss kts)) ∧ ∀ H', Same H H' → Q (.bl true) H'
section
variable {P : Program} {w : World} {K : PySem.W.Frag} {mg : Str → Option Value} {base : Heap}
abbrev sPairW : Stmt := topS 41
abbrev nPairW : List Str := ["_law_low", "_law_high", "_law_joined", "_law_due", "_law_handed", "_law_given", "_law_row"]
theorem scPairW : FnScope nPairW ["_law_low", "_law_high", "_law_joined"] (defScope sPairW) := ⟨rfl, rfl, rfl, by decide +kernel, rfl, by decide +kernel, by decide +kernel⟩
theorem ok_pairW {f : Addr} {fd : FuncData} (F : Fun K "_law_pair_right" "_law_pair_right" sPairW f fd) (T : Bi mg) (Uarejoinedleagues : Use P w K mg base "are_joined_leagues" ["one", "other"] spJoinedL 8) (Upartingpeople : Use P w K mg base "parting_people" ["one", "other"] spPartP 8) (ULparting : UseG P w K mg base "_law_parting" ["_law_low", "_law_high"] (spPartW K) 6) (ULbetweenright : Use P w K mg base "_law_between_right" ["_law_low", "_law_high"] (spBetwW K) 8) : FnG P w K mg base CX0 9 f fd ["_law_low", "_law_high", "_law_joined"] (spPairW K) := by
  refine FnG.mk' F scPairW (fun vs H Q E h => ?_) (fun cdv A outer s H vs Q E hgd hr h => ?_)
  · obtain ⟨a, b, rs, rs', kss, kts, jv, rfl, _⟩ := h
    rfl
  · obtain ⟨a, b, rs, rs', kss, kts, jv, rfl, t, t2, fine, fine2, one, l, n7, hj, q⟩ := h
    have hgd' : (A.deeper (envOfC "_law_pair_right" (defScope sPairW) s.heap.objs.size f cdv)).guards = some [] := hgd
    refine ⟨_, (pss_cons (ps_par3 (i := 3) (j := 4) (l := 5) rfl scPairW.nd rfl rfl rfl (by decide) (by decide) (by decide) rfl rfl rfl (pa_cons (pe_useG ULparting hgd' (hr.mono (by decide)) (by rfl) (pa_cons (pv 0) (pa_cons (pv 1) pa_nil))) (pa_cons (pe_lc (own := [("_law_row", 6)]) (g := (gName 6)) (tt := tYes) (te := (tCB (rLstL K) (tCons (tVar 6) tNil))) rfl scPairW.nd (pi_list (pv 0))
            (blkOk_by (N := nPairW) (sc := (defScope sPairW)) (by decide +kernel)) (fun _ _ _ _ _ => (pg_name (i := 6) scPairW.nd rfl (Or.inl rfl))) (fun _ _ _ _ _ => by exact pts_nil)
            (fun _ _ _ _ _ => by exact (pe_callTy call_lstL (by rfl) T.list PyProof.Rows.boot_list (pa_cons (pv 6) pa_nil)))) (pa_cons (pe_lc (own := [("_law_row", 6)]) (g := (gName 6)) (tt := tYes) (te := (tCB (rLstL K) (tCons (tVar 6) tNil))) rfl scPairW.nd (pi_list (pv 1))
            (blkOk_by (N := nPairW) (sc := (defScope sPairW)) (by decide +kernel)) (fun _ _ _ _ _ => (pg_name (i := 6) scPairW.nd rfl (Or.inl rfl))) (fun _ _ _ _ _ => by exact pts_nil)
            (fun _ _ _ _ _ => by exact (pe_callTy call_lstL (by rfl) T.list PyProof.Rows.boot_list (pa_cons (pv 6) pa_nil)))) pa_nil))) (by rfl))
      (pss_cons (ps_if (PW.pt (pw_and (pt_cmpR op_notN (pv 2) pe_non (nomark _)) (pw_and1 (pt_cmpR op_ne (pv 2) (pe_cmpR op_isN (pv 3) pe_non (nomark _)) (nomark _)))))
        (pss_one (ps_ret pe_bl)) pss_nil)
      (pss_cons (ps_if (PW.pt (pw_or (pt_cmpR op_ne (pe_callB (call_repD hgd' hr.units) (by rfl) T.repr (by decide +kernel) (pa_cons (pe_use Uarejoinedleagues hr (by rfl) (pa_cons (pv 4) (pa_cons (pv 5) pa_nil))) pa_nil)) (pe_callB (call_repD hgd' hr.units) (by rfl) T.repr (by decide +kernel) (pa_cons (pe_cmpR op_isN (pv 3) pe_non (nomark _)) pa_nil)) (nomark _)) (pw_or (pt_cmpR (op_neD hr.units) (pv 4) (pv 0) (nomark _)) (pw_or1 (pt_cmpR (op_neD hr.units) (pv 5) (pv 1) (nomark _))))))
        (pss_one (ps_ret pe_bl)) pss_nil)
      (pss_cons (ps_if (PW.pt (pw_or (pt_cmpR op_ne (pe_callB (call_repD hgd' hr.units) (by rfl) T.repr (by decide +kernel) (pa_cons (pe_use Upartingpeople hr (by rfl) (pa_cons (pv 4) (pa_cons (pv 5) pa_nil))) pa_nil)) (pe_callB (call_repD hgd' hr.units) (by rfl) T.repr (by decide +kernel) (pa_cons (pv 3) pa_nil)) (nomark _)) (pw_or (pt_cmpR op_ne (pe_callB (call_repD hgd' hr.units) (by rfl) T.repr (by decide +kernel) (pa_cons (pe_use Upartingpeople hr (by rfl) (pa_cons (pv 5) (pa_cons (pv 4) pa_nil))) pa_nil)) (pe_callB (call_repD hgd' hr.units) (by rfl) T.repr (by decide +kernel) (pa_cons (pv 3) pa_nil)) (nomark _)) (pw_or (pt_cmpR (op_neD hr.units) (pv 4) (pv 0) (nomark _)) (pw_or1 (pt_cmpR (op_neD hr.units) (pv 5) (pv 1) (nomark _)))))))
        (pss_one (ps_ret pe_bl)) pss_nil)
      (pss_one (ps_ret (pe_or (pe_cmpR op_notN (pv 3) pe_non (nomark _)) (pe_one (pe_use ULbetweenright hr (by rfl) (pa_cons (pv 0) (pa_cons (pv 1) pa_nil))))))))))), ?_⟩
    have lr1 : (rs.map V.ref).length = kss.length := by rw [List.length_map, t.len]
    have lr2 : (rs'.map V.ref).length = kss.length := by rw [List.length_map, t2.len, l]
    have fitB : ∀ b : Bool, _ := fun b => (Nice.leaf (n := 3) (d := .bool b) (by exact True.intro)).fits
    have nicR : ∀ l0 : List Nat, LotOf kss.length l0 → l0.length ≤ 4 → Nice 3 (rowP (nums l0)) := fun l0 L h4 => by
      refine Nice.list (n := 2) (by unfold nums; rw [List.length_map, List.length_map]; omega) fun x hx => ?_
      obtain ⟨y, hy, rfl⟩ := List.mem_map.mp hx
      obtain ⟨z, hz, rfl⟩ := nums_mem.mp hy
      have := L.low z hz
      exact Nice.leaf (by show ((z : Nat) : Int).natAbs < 2 ^ 100; omega)
    have nicN : Nice 3 PyData.none := Nice.leaf (by exact True.intro)
    have dtR : ∀ {H : Hp} {p : Addr} {l0 : List Nat}, H p = some (.lst (natV l0)) → Dt K H (.ref p) (rowP (nums l0)) := fun {H p l0} h => .lst (by rw [h, natV_nums]) (dts_ints _)
    refine tSeq_of (tCons_of (te_by (R := fun v H' => ∃ (dd : PyData) (jb : Bool), Same H H' ∧ Dt K H' v dd ∧ Nice 3 dd ∧ (jb = true ↔ JK kss kts) ∧ decide (v = .non) = jb ∧ (jb = true → dd = .none) ∧ (jb = false → ∃ l0, Part kss kts l0 ∧ dd = rowP (nums l0))) (fun Q' hq => ?_) ?_))
    · refine ⟨_, rfl, _, rfl, a, b, rs, rs', kss, kts, rfl, t, t2, fine, fine2, one, l, n7, fun a3 a4 H1 s1 => ?_, fun p l0 H1 s1 hp hl => ?_⟩
      · have J := (fours fine fine2 l).mpr ⟨all_sub.mp a3, all_sub.mp a4⟩
        exact hq _ _ ⟨.none, true, s1, .non, nicN, ⟨fun _ => J, fun _ => rfl⟩, rfl, fun _ => rfl, (fun z => nomatch z)⟩
      · have no := part_no fine fine2 l hl
        obtain ⟨L, h4⟩ := part_low hl
        exact hq _ _ ⟨_, false, s1, dtR hp, nicR l0 L h4, ⟨(fun z => nomatch z), fun z => absurd z no⟩, rfl, (fun z => nomatch z), fun _ => ⟨l0, hl, rfl⟩⟩
    rintro due H1 ⟨dd, jb, s1, ddt, nic, hjb, enon, isN, isP⟩
    refine ⟨_, rfl, a, rfl, ⟨_, SqL.of (s1 _ _ t.top)⟩, fun D0 hD0 => ?_⟩
    refine lc_objs (walk_list (K := K) (a := a) (xs := rs.map V.ref)) (fun i => .lst ((kss.getD i []).map V.int)) hD0 (by rw [lr1, sizeLine_eq]; omega) (fun H' s' => SqL.of (s' _ _ (s1 _ _ t.top))) ?_ ?_
    · rintro x y H5 H6 M hx s6 ⟨rfl, ey⟩ hM
      rw [lr1] at hx
      obtain ⟨r, ks, r1, r2, r3⟩ := t.at (i := x) (by omega)
      rw [List.getElem?_map, r1] at ey
      cases ey
      refine ⟨rfl, _, rfl, r, _, rfl, SqL.of (s6 _ _ (s1 _ _ r3)), fun l hl => ?_⟩
      obtain ⟨H7, e7, s7, f7⟩ := gen H6 hl (.lst (ks.map V.int))
      rw [e7]
      refine hM H7 l s7 hl ?_
      rw [f7, List.getD_eq_getElem?_getD, r2]
      rfl
    intro H2 ps s2 obD
    rw [lr1] at obD
    have tD := obD.tab rfl
    refine ⟨_, rfl, b, rfl, ⟨_, SqL.of ((s1.trans s2) _ _ t2.top)⟩, fun E0 hE0 => ?_⟩
    refine lc_objs (walk_list (K := K) (a := b) (xs := rs'.map V.ref)) (fun i => .lst ((kts.getD i []).map V.int)) hE0 (by rw [lr2, sizeLine_eq]; omega) (fun H' s' => SqL.of (s' _ _ ((s1.trans s2) _ _ t2.top))) ?_ ?_
    · rintro x y H5 H6 M hx s6 ⟨rfl, ey⟩ hM
      rw [lr2] at hx
      obtain ⟨r, ks, r1, r2, r3⟩ := t2.at (i := x) (by omega)
      rw [List.getElem?_map, r1] at ey
      cases ey
      refine ⟨rfl, _, rfl, r, _, rfl, SqL.of (s6 _ _ ((s1.trans s2) _ _ r3)), fun l hl => ?_⟩
      obtain ⟨H7, e7, s7, f7⟩ := gen H6 hl (.lst (ks.map V.int))
      rw [e7]
      refine hM H7 l s7 hl ?_
      rw [f7, List.getD_eq_getElem?_getD, r2]
      rfl
    intro H3 ps' s3 obE
    rw [lr2] at obE
    have tE := obE.tab l
    have tD := tD.same s3
    have s13 := s1.trans (s2.trans s3)
    have dd3 := ddt.same (s2.trans s3)
    refine ⟨_, _, _, rfl, ?_⟩
    dsimp only
    refine seq_by (fun σ' H' => H' = H3 ∧ σ' = [some (.ref a), some (.ref b), some jv, some due, some (.ref D0), some (.ref E0), none]) (fun nx hnx => ?_) ?_
    · refine ⟨_, rfl, rfl, _, rfl, ?_⟩
      rcases hj with rfl | ⟨v, rfl, hv⟩
      · exact iteF (iteF (hnx _ _ ⟨rfl, rfl⟩))
      · refine iteT ?_
        refine ⟨_, rfl, _, rfl, rfl, rfl, _, rfl, ?_⟩
        have : decide (V.bl v = V.bl (decide (due = .non))) = true := decide_eq_true (by
          rw [enon]
          congr 1
          exact Bool.eq_iff_iff.mpr (hv.trans hjb.symm))
        rw [this]
        exact iteF (hnx _ _ ⟨rfl, rfl⟩)
    rintro σ HX ⟨eX, rfl⟩
    subst eX
    refine ⟨_, rfl, _, rfl, D0, E0, ps, ps', kss, kts, rfl, tD, tE, fine, fine2, one, l, by omega, fun v H4 s4 hv => ?_⟩
    have ev : v = jb := Bool.eq_iff_iff.mpr (hv.trans hjb.symm)
    subst ev
    refine ⟨_, _, rfl, .bl _, (fitB _).1, (fitB _).2.1, (fitB _).2.2, _, rfl, rfl, _, _, rfl, .bl _, (fitB _).1, (fitB _).2.1, (fitB _).2.2, rfl, _, rfl, ?_⟩
    rw [enon, decide_eq_true rfl]
    refine iteF ?_
    have s14 := s13.trans s4
    have tD4 := tD.same s4
    have tE4 := tE.same s4
    refine ⟨_, rfl, _, rfl, _, _, tD4.dp, (t.same s14).dp, shaped_tab _, shaped_tab _, ?_⟩
    rw [eqv_tab, decide_eq_true rfl]
    refine ⟨_, rfl, iteF ?_⟩
    refine ⟨_, rfl, _, rfl, _, _, tE4.dp, (t2.same s14).dp, shaped_tab _, shaped_tab _, ?_⟩
    rw [eqv_tab, decide_eq_true rfl]
    refine ⟨_, rfl, iteF ?_⟩
    have fd := nic.fits
    by_cases J : JK kss kts
    · have vt := hv.mpr J
      subst vt
      have en := of_decide_eq_true enon
      subst en
      have ed := isN rfl
      subst ed
      refine ⟨_, rfl, _, rfl, D0, E0, ps, ps', kss, kts, rfl, tD4, tE4, fine, fine2, one, l, by omega, fun _ H5 s5 => ?_, fun p l' H5 s5 np hp pl no => absurd J no⟩
      refine ⟨.non, .none, rfl, .non, fd.1, fd.2.1, fd.2.2, _, rfl, .non, .none, rfl, .non, fd.1, fd.2.1, fd.2.2, rfl, _, rfl, ?_⟩
      rw [decide_eq_true rfl]
      refine iteF ?_
      refine ⟨_, rfl, _, rfl, E0, D0, ps', ps, kts, kss, rfl, tE4.same s5, tD4.same s5, fine2, fine, by omega, l.symm, by omega, fun _ H6 s6 => ?_, fun p l' H6 s6 np hp pl no => absurd (J.symm fine) no⟩
      refine ⟨.non, .none, rfl, .non, fd.1, fd.2.1, fd.2.2, _, rfl, .non, .none, rfl, .non, fd.1, fd.2.1, fd.2.2, rfl, _, rfl, ?_⟩
      rw [decide_eq_true rfl]
      refine iteF ?_
      have s46 := s5.trans s6
      have s16 := s14.trans s46
      refine ⟨_, rfl, _, rfl, _, _, (tD4.same s46).dp, (t.same s16).dp, shaped_tab _, shaped_tab _, ?_⟩
      rw [eqv_tab, decide_eq_true rfl]
      refine ⟨_, rfl, iteF ?_⟩
      refine ⟨_, rfl, _, rfl, _, _, (tE4.same s46).dp, (t2.same s16).dp, shaped_tab _, shaped_tab _, ?_⟩
      rw [eqv_tab, decide_eq_true rfl]
      refine ⟨_, rfl, iteF ?_⟩
      refine ⟨_, rfl, rfl, false, rfl, ?_⟩
      refine ⟨_, rfl, _, rfl, a, b, rs, rs', kss, kts, rfl, t.same s16, t2.same s16, fine, fine2, one, l, n7, J, fun H7 s7 => ?_⟩
      exact q _ (s16.trans s7)
    · have vf : v = false := Bool.eq_false_iff.mpr fun z => J (hv.mp z)
      subst vf
      obtain ⟨l0, hl0, ed⟩ := isP rfl
      subst ed
      have dd4 := dd3.same s4
      refine ⟨_, rfl, _, rfl, D0, E0, ps, ps', kss, kts, rfl, tD4, tE4, fine, fine2, one, l, by omega, fun z => absurd z J, fun p l' H5 s5 np hp pl no => ?_⟩
      have el := part_one pl hl0
      subst el
      refine ⟨.ref p, _, rfl, dtR hp, fd.1, fd.2.1, fd.2.2, _, rfl, due, _, rfl, dd4.same s5, fd.1, fd.2.1, fd.2.2, rfl, _, rfl, ?_⟩
      rw [decide_eq_true rfl]
      refine iteF ?_
      refine ⟨_, rfl, _, rfl, E0, D0, ps', ps, kts, kss, rfl, tE4.same s5, tD4.same s5, fine2, fine, by omega, l.symm, by omega, fun z => absurd (z.symm fine2) J, fun p2 l2 H6 s6 np2 hp2 pl2 no2 => ?_⟩
      have el2 := part_one (part_sym fine2 fine l.symm pl2) pl
      subst el2
      refine ⟨.ref p2, _, rfl, dtR hp2, fd.1, fd.2.1, fd.2.2, _, rfl, due, _, rfl, (dd4.same s5).same s6, fd.1, fd.2.1, fd.2.2, rfl, _, rfl, ?_⟩
      rw [decide_eq_true rfl]
      refine iteF ?_
      have s46 := s5.trans s6
      have s16 := s14.trans s46
      refine ⟨_, rfl, _, rfl, _, _, (tD4.same s46).dp, (t.same s16).dp, shaped_tab _, shaped_tab _, ?_⟩
      rw [eqv_tab, decide_eq_true rfl]
      refine ⟨_, rfl, iteF ?_⟩
      refine ⟨_, rfl, _, rfl, _, _, (tE4.same s46).dp, (t2.same s16).dp, shaped_tab _, shaped_tab _, ?_⟩
      rw [eqv_tab, decide_eq_true rfl]
      refine ⟨_, rfl, iteF ?_⟩
      refine ⟨_, rfl, rfl, true, by rw [enon]; rfl, ?_⟩
      rw [if_pos rfl]
      exact q _ s16
end
end K58

namespace K58
open PySem PySem.Spec PyProof.Rows
open L2 hiding spCell
open GL
theorem tab_fresh {H : Hp} {c R : Addr} {rs : List Addr} {kss : List (List Int)} (t : Tab H c rs kss) (n : H R = none) : c ≠ R ∧ R ∉ rs := ⟨ne_of_none t.top n, fun h => by
  obtain ⟨j, hj⟩ := List.mem_iff_getElem?.mp h
  have jl := (List.getElem?_eq_some_iff.mp hj).1
  obtain ⟨r', ks', q1, _, q3⟩ := t.at (i := j) (by rw [← t.len]; exact jl)
  rw [hj] at q1
  cases q1
  rw [n] at q3
  cases q3⟩
def spRightW : Sp := fun vs H Q _ => ∃ (g : Addr) (n : Nat), vs = [.ref g] ∧ GL.Gen H g (n + 2000) ∧ ∀ H', But g H H' → Q (.bl true) H'
section
variable {P : Program} {w : World} {K : PySem.W.Frag} {mg : Str → Option Value} {base : Heap}
abbrev sRightW : Stmt := topS 44
abbrev nRightW : List Str := ["_law_generator_here", "_law_rows", "_law_known", "_law_mates", "_law_other", "_law_mate"]
theorem scRightW : FnScope nRightW ["_law_generator_here"] (defScope sRightW) := ⟨rfl, rfl, rfl, by decide +kernel, rfl, by decide +kernel, by decide +kernel⟩
theorem ok_rightW {f : Addr} {fd : FuncData} (F : Fun K "_law_right" "_law_right" sRightW f fd) (T : Bi mg) (ULrandom : Use P w K mg base "_law_random" ["_law_generator_here", "_law_bound"] spRandom 2) (ULturned : Use P w K mg base "_law_turned" ["_law_rows", "_law_one", "_law_other"] spTurnW 1) (ULbuilt : Use P w K mg base "_law_built" ["_law_generator_here", "_law_size", "_law_wild"] spBuilt 3) (ULwalked : UseG P w K mg base "_law_walked" ["_law_rows"] (spWalkW K) 5) (ULpairright : UseG P w K mg base "_law_pair_right" ["_law_low", "_law_high", "_law_joined"] (spPairW K) 9) (ULled : Use P w K mg base "_law_led" ["_law_generator_here", "_law_rows", "_law_many"] spLedW 4) : FnG P w K mg base CX0 10 f fd ["_law_generator_here"] spRightW := by
  refine FnG.mk' F scRightW (fun vs H Q E h => ?_) (fun cdv A outer s H vs Q E hgd hr h => ?_)
  · obtain ⟨g, n, rfl, _⟩ := h
    rfl
  · obtain ⟨g, n, rfl, G, q⟩ := h
    have hgd' : (A.deeper (envOfC "_law_right" (defScope sRightW) s.heap.objs.size f cdv)).guards = some [] := hgd
    refine ⟨_, (pss_cons (ps_set (i := 1) scRightW.nd rfl (Or.inr rfl) (pe_use ULbuilt (hr.mono (by decide)) (by rfl) (pa_cons (pv 0) (pa_cons (pe_op op_add pe_int (pe_use ULrandom (hr.mono (by decide)) (by rfl) (pa_cons (pv 0) (pa_cons pe_int pa_nil)))) (pa_cons pe_int pa_nil)))))
      (pss_cons (ps_asg (pe_tup (pa_cons (pe_ix ix_list (pe_useG ULwalked hgd' (hr.mono (by decide)) (by rfl) (pa_cons (pv 1) pa_nil)) pe_int (fun _ _ => rfl)) (pa_cons (pe_lst (pa_cons (pe_use ULled (hr.mono (by decide)) (by rfl) (pa_cons (pv 0) (pa_cons (pv 1) (pa_cons pe_int pa_nil)))) (pa_cons (pe_use ULbuilt (hr.mono (by decide)) (by rfl) (pa_cons (pv 0) (pa_cons (pe_callB call_len_seq (by rfl) T.len PySem.boot_len (pa_cons (pv 1) pa_nil)) (pa_cons pe_int pa_nil)))) (pa_cons (pv 1) pa_nil)))) pa_nil)))
          (pg_tup rfl (pgs_cons (pg_name (i := 2) scRightW.nd rfl (Or.inr rfl)) (pgs_cons (pg_name (i := 3) scRightW.nd rfl (Or.inl rfl)) pgs_nil))))
      (pss_cons (ps_if (pt_cmpR op_gt (pe_callB call_len_seq (by rfl) T.len PySem.boot_len (pa_cons (pv 1) pa_nil)) pe_int (nomark _))
        (pss_cons (ps_set (i := 4) scRightW.nd rfl (Or.inl rfl) (pe_op op_add pe_int (pe_use ULrandom (hr.mono (by decide)) (by rfl) (pa_cons (pv 0) (pa_cons (pe_op op_sub (pe_callB call_len_seq (by rfl) T.len PySem.boot_len (pa_cons (pv 1) pa_nil)) pe_int) pa_nil)))))
        (pss_one (ps_expr (pe_bm PySem.F.plainAttrs_list PySem.F.slot_list_append PySem.F.type_list_append mt_append (pv 3) (pa_cons (pe_use ULturned (hr.mono (by decide)) (by rfl) (pa_cons (pv 1) (pa_cons (pe_use ULrandom (hr.mono (by decide)) (by rfl) (pa_cons (pv 0) (pa_cons (pv 4) pa_nil))) (pa_cons (pv 4) pa_nil)))) pa_nil))))) pss_nil)
      (pss_one (ps_ret (pe_cmpR (op_eqNil hr.units) (pe_lc (own := [("_law_mate", 5)]) (g := (gName 5)) (tt := (tNot (tB (tCall (spPairW K) [] E0 (tCons (tVar 1) (tCons (tVar 5) (tCons (tDIn (tCB (rRepD K) (tCons (tVar 5) tNil)) (tVar 2)) tNil))))))) (te := (tVar 5)) rfl scRightW.nd (pi_list (pv 3))
            (blkOk_by (N := nRightW) (sc := (defScope sRightW)) (by decide +kernel)) (fun _ _ _ _ _ => (pg_name (i := 5) scRightW.nd rfl (Or.inl rfl))) (fun _ _ _ _ _ => by exact (pts_one (pt_not (pt_val (pe_useG ULpairright hgd' hr (by rfl) (pa_cons (pv 1) (pa_cons (pv 5) (pa_cons (pe_cmp (pc_din (hu_of hr) (pe_callB (call_repD hgd' hr.units) (by rfl) T.repr (by decide +kernel) (pa_cons (pv 5) pa_nil)) (pv 2))) pa_nil))))))))
            (fun _ _ _ _ _ => by exact (pv 5))) (pe_lst pa_nil) (nomark _))))))), ?_⟩
    refine ⟨_, rfl, _, rfl, g, 5, n + 1995, rfl, by decide, by decide, G, fun r H1 r0 r1 G1 b1 => ⟨_, _, rfl, rfl, ?_⟩⟩
    obtain ⟨k, rfl⟩ : ∃ k : Nat, r = (k : Int) := ⟨r.toNat, by omega⟩
    refine ⟨g, 1 + k, 3, n + 1695, rfl, by omega, by omega, by omega, G1, fun c H2 b2 G2 co => ?_⟩
    obtain ⟨rs, kss, t, lk, fine, nc, nc1, nr1⟩ := co.ex
    have one : 1 ≤ kss.length := by omega
    have n5 : kss.length ≤ 5 := by omega
    have cg : c ≠ g := (G1.ne nc1).symm
    have grs : g ∉ rs := notin_new G1 nr1
    refine gName_by ?_
    have hg2 : ∃ o, H2 g = some o := by
      obtain ⟨x, y, w, e, _⟩ := G2
      exact ⟨_, e⟩
    obtain ⟨og, hg2⟩ := hg2
    refine ⟨_, rfl, c, rs, kss, g, og, rfl, hg2, cg, grs, t, fine, one, n5, fun p D qv qs kvs H3 s3 hp mem ql dq hD kn => ?_⟩
    have G3 := G2.same s3
    have Dg : D ≠ g := fun z => by
      obtain ⟨x, y, w, e, _⟩ := G3
      rw [z, e] at hD
      cases hD
    refine ⟨p, _, _, _, rfl, rfl, SqL.of hp, atI_nat (j := 1) rfl, ?_⟩
    have t3 := t.same s3
    refine ⟨_, rfl, _, rfl, g, c, rs, kss, 6, n + 1665, rfl, t3, grs, fine, by omega, by decide, G3.less (by omega), fun p1 ps1 k1 H4 b4 G4 t1 g1 J1 => ?_⟩
    have lr : (rs.map V.ref).length = kss.length := by rw [List.length_map, t.len]
    have t4 := t3.but b4 cg grs
    have hD4 := b4 _ _ hD Dg
    refine ⟨_, rfl, _, rfl, c, _, rfl, .inl (SqL.of t4.top), g, kss.length, 3, n + 1365, by rw [lr]; rfl, one, by omega, by omega, G4, fun c2 H5 b5 G5 co2 => ?_⟩
    obtain ⟨rsA, kas, tA, lkA, fineA, ncA, ncA1, nrA1⟩ := co2.ex
    have t5 := t4.but b5 cg grs
    have hD5 := b5 _ _ hD4 Dg
    have t15 := t1.but b5 (row_ne t1 G4) g1
    have gA : g ∉ rsA := notin_new G4 nrA1
    have b05 : But g H H5 := b1.trans (b2.trans ((But.of s3).trans (b4.trans b5)))
    refine ⟨_, rfl, (by show 3 ≤ sizeLine; decide), fun M hM => ?_⟩
    obtain ⟨H6, e6, s6, f6⟩ := gen H5 hM (.lst [.ref p1, .ref c2, .ref c])
    rw [e6]
    clear e6
    refine ⟨(by show 2 ≤ sizeLine; decide), fun T0 hT => ?_⟩
    obtain ⟨H7, e7, s7, f7⟩ := gen H6 hT (.tup [.ref D, .ref M])
    rw [e7]
    clear e7
    refine ⟨T0, [.ref D, .ref M], rfl, SqT.of f7, rfl, _, _, rfl, _, _, rfl, rfl, ?_⟩
    have s57 := s6.trans s7
    have Mg : M ≠ g := (G5.ne hM).symm
    have hM0 : ∀ {b : Addr} {o : HO}, H b = some o → b ≠ g → b ≠ M := fun {b o} e nb => ne_of_none (b05 _ _ e nb) hM
    have okd : ∃ ok : Hp → V → Prop, ok = fun H v => ∃ (cm : Addr) (rs' : List Addr) (kts : List (List Int)), v = .ref cm ∧ Tab H cm rs' kts ∧ Fine 2 kts ∧ kts.length = kss.length := ⟨_, rfl⟩
    obtain ⟨ok, eok⟩ := okd
    have cM : c ≠ M ∧ M ∉ rs := tab_fresh t5 hM
    have p1M := tab_fresh t15 hM
    have c2M := tab_fresh tA hM
    dsimp only
    refine seq_by (fun σ' H' => ∃ (e4 : Option V) (vs : List V), σ' = [some (.ref g), some (.ref c), some (.ref D), some (.ref M), e4, none] ∧ But g H H' ∧ H' M = some (.lst vs) ∧ vs.length ≤ 4 ∧ (∀ v ∈ vs, ok H' v) ∧ Tab H' c rs kss ∧ H' D = some (.dK kvs)) (fun nx hnx => ?_) ?_
    · refine ⟨_, rfl, c, _, rfl, .inl (SqL.of (s57 _ _ t5.top)), _, _, rfl, rfl, _, rfl, ?_⟩
      rw [lr]
      have G7 := (G5.same s57)
      have t7 := t5.same s57
      have hM7 := s7 _ _ f6
      have hD7 := s57 _ _ hD5
      have t17 := t15.same s57
      have tA7 := tA.same s57
      by_cases big : 1 < kss.length
      · rw [decide_eq_true (show (1 : Int) < ((kss.length : Nat) : Int) by omega)]
        refine iteT ?_
        refine ⟨_, rfl, _, rfl, c, _, rfl, .inl (SqL.of t7.top), _, _, rfl, rfl, ?_⟩
        rw [lr]
        refine ⟨g, ((kss.length : Nat) : Int) - 1, n + 1360, rfl, by omega, by omega, G7, fun r2 H8 r20 r21 G8 b8 => ⟨_, _, rfl, rfl, ?_⟩⟩
        obtain ⟨m, em⟩ : ∃ m : Nat, (1 : Int) + r2 = ((m : Nat) : Int) := ⟨(1 + r2).toNat, by omega⟩
        refine gName_by ?_
        dsimp only
        rw [em]
        have m1 : 1 ≤ m := by omega
        have ml : m < kss.length := by omega
        have hM8 := b8 _ _ hM7 Mg
        have t8 := t7.but b8 cg grs
        refine ⟨_, rfl, .inl ⟨rfl, _, SqL.of hM8⟩, _, rfl, _, rfl, _, rfl, g, ((m : Nat) : Int), n + 1355, rfl, by omega, by omega, G8, fun r3 H9 r30 r31 G9 b9 => ?_⟩
        obtain ⟨x, rfl⟩ : ∃ x : Nat, r3 = (x : Int) := ⟨r3.toNat, by omega⟩
        have xm : x < m := by omega
        have t9 := t8.but b9 cg grs
        refine ⟨_, rfl, c, rs, kss, x, m, rfl, t9, fine, by omega, by omega, ml, by omega, fun y ys H10 s10 ny nys _ ty => ?_⟩
        rw [show min x m = x by omega, show max x m = m by omega] at ty
        have hM9 := b9 _ _ hM8 Mg
        have hM10 := s10 _ _ hM9
        have b79 : But g H7 H9 := b8.trans b9
        have bM : But M H10 (upd H10 M (.lst ([.ref p1, .ref c2, .ref c] ++ [.ref y]))) := But.put
        have yM : y ≠ M := fun z => by rw [z, hM9] at ny; cases ny
        have ysM : M ∉ ys := fun z => by
          have := nys M z
          rw [hM9] at this
          cases this
        have DM : D ≠ M := fun z => by rw [z, hM7] at hD7; cases hD7
        refine ⟨M, _, _, rfl, rfl, hM10, (by show 3 < sizeLine; decide), ?_⟩
        refine hnx _ _ ⟨_, [.ref p1, .ref c2, .ref c] ++ [.ref y], rfl, fun b o e nb => ?_, upd_same, (by show 4 ≤ 4; decide), fun v hv => ?_, ((t9.same s10).but bM cM.1 cM.2), ?_⟩
        · rw [upd_ne (hM0 e nb)]
          exact (b05.trans ((But.of s57).trans (b79.trans (.of s10)))) _ _ e nb
        · rw [eok]
          simp only [List.mem_append, List.mem_cons, List.not_mem_nil, or_false] at hv
          rcases hv with (rfl | rfl | rfl) | rfl
          · exact ⟨p1, ps1, k1, rfl, ((t17.but b79 (row_ne t17 G7) g1).same s10).but bM p1M.1 p1M.2, J1.fine fine, J1.len⟩
          · exact ⟨c2, rsA, kas, rfl, ((tA7.but b79 (row_ne tA7 G7) gA).same s10).but bM c2M.1 c2M.2, fineA, lkA⟩
          · exact ⟨c, rs, kss, rfl, (t9.same s10).but bM cM.1 cM.2, fine, rfl⟩
          · exact ⟨y, ys, _, rfl, ty.but bM yM ysM, turnK_fine fine xm ml, by rw [turnK_len]⟩
        · rw [upd_ne DM]
          exact s10 _ _ (b79 _ _ hD7 Dg)
      · rw [decide_eq_false (show ¬ ((1 : Int) < ((kss.length : Nat) : Int)) by omega)]
        refine iteF ?_
        refine hnx _ _ ⟨_, _, rfl, b05.trans (.of s57), hM7, (by show 3 ≤ 4; decide), fun v hv => ?_, t7, hD7⟩
        rw [eok]
        simp only [List.mem_cons, List.not_mem_nil, or_false] at hv
        rcases hv with rfl | rfl | rfl
        · exact ⟨p1, ps1, k1, rfl, t17, J1.fine fine, J1.len⟩
        · exact ⟨c2, rsA, kas, rfl, tA7, fineA, lkA⟩
        · exact ⟨c, rs, kss, rfl, t7, fine, rfl⟩
    rintro σ H8 ⟨e4, vs, rfl, b8, hM8, lv, oks, t8, hD8⟩
    refine ⟨_, rfl, M, rfl, ⟨_, SqL.of hM8⟩, fun E0 hE => ?_⟩
    refine lc_keep (walk_list (K := K) (a := M) (xs := vs)) (fun _ => false) (fun _ => .non) hE (by rw [sizeLine_eq]; omega) (fun H' s => SqL.of (s _ _ hM8)) ?_ ?_
    · rintro i x H9 H10 N2 M2 hi s9 ⟨rfl, ex⟩ hN2 hM2
      have hx := oks x (List.mem_of_getElem? ex)
      rw [eok] at hx
      obtain ⟨cm, rs', kts, rfl, tm, fm, lm⟩ := hx
      have fi := (nice_tab fm (by decide) (show kts.length ≤ 40 by omega)).fits
      refine ⟨rfl, ?_⟩
      obtain ⟨k1, k2⟩ := kn kts fm lm
      refine ⟨_, rfl, _, rfl, _, rfl, .ref cm, tabP kts, rfl, (tm.same s9).dt, fi.1, fi.2.1, fi.2.2, _, rfl, D, _, rfl, DGet.k (k := Sum.inr (txtK kts)) (s9 _ _ hD8), ?_⟩
      refine ⟨c, cm, rs, rs', kss, kts, .bl _, rfl, t8.same s9, tm.same s9, fine, fm, one, lm, by omega, .inr ⟨_, rfl, ?_⟩, fun H11 s11 => ⟨true, rfl, iteF (hM2 _ rfl s11)⟩⟩
      by_cases J : JK kss kts
      · rw [k1 J]
        exact ⟨fun _ => J, fun _ => rfl⟩
      · rw [k2 J]
        exact ⟨(fun z => nomatch z), fun z => absurd z J⟩
    · intro H9 s9 h9
      have h9 : H9 E0 = some (.lst []) := by
        rw [h9]
        have : (List.range vs.length).filter (fun _ => false) = [] := List.filter_eq_nil_iff.mpr fun _ _ z => by cases z
        rw [this]
        rfl
      refine ⟨Nat.zero_le _, fun e he => ?_⟩
      obtain ⟨H10, e10, s10, f10⟩ := gen H9 he (.lst [])
      rw [e10]
      clear e10
      refine ⟨E0, e, _, rfl, rfl, SqL.of (s10 _ _ h9), SqL.of f10, ?_⟩
      exact q _ (b8.trans (.of (s9.trans s10)))
end
end K58

/-! Leagues of an order with one couple turned: among whom they part. -/
namespace GL
open PySem PySem.Spec PyProof.Rows
open L2 hiding spCell
section
variable {kss kts kus : List (List Int)} {l r : List Nat} {i j a b c d n m : Nat}
theorem rigid_at (f : Fine 2 kss) (e : kts.length = kss.length) (nd : r.Nodup) (low : ∀ x ∈ r, x < kss.length) (J : JK (amongK kss (srtN kss.length r)) (amongK kts (srtN kss.length r)))
    (rig : ∀ p ∈ r, ∀ q ∈ r, p ≠ q → ∃ m ∈ r, m ≠ p ∧ m ≠ q ∧ wonB kss m p ≠ wonB kss m q) : ∀ p ∈ r, ∀ q ∈ r, p ≠ q → wonB kss p q = wonB kts p q := by
  obtain ⟨s1, s2⟩ := srt_of low
  have L : LotOf kss.length (srtN kss.length r) := ⟨s1, fun x hx => low x ((s2 x).mp hx)⟩
  have len : (srtN kss.length r).length = r.length := ((List.perm_ext_iff_of_nodup (s1.imp fun h => Nat.ne_of_lt h) nd).mpr s2).length_eq
  have no : ∀ a b, a < b → b < (amongK kss (srtN kss.length r)).length → alikeL (amongK kss (srtN kss.length r)) a b = false := fun a b ab hb => by
    rw [among_len] at hb
    refine Bool.eq_false_iff.mpr fun al => ?_
    obtain ⟨m, hm, mp, mq, w⟩ := rig _ ((s2 _).mp (lotW_mem (show a < _ by omega))) _ ((s2 _).mp (lotW_mem hb)) (L.ne (by omega) hb (by omega))
    obtain ⟨k, hk, rfl⟩ := mem_lotW ((s2 m).mpr hm)
    have ka : k ≠ a := fun z => mp (by rw [z])
    have kb : k ≠ b := fun z => mq (by rw [z])
    have := alikeL_iff.mp al k (by rw [among_len]; exact hk) ka kb
    rw [won_among L hk (by omega) ka, won_among L hk hb kb] at this
    exact w this
  have same := jk_rigid no J
  intro p hp q hq ne
  obtain ⟨i, hi, rfl⟩ := mem_lotW ((s2 p).mpr hp)
  obtain ⟨j, hj, rfl⟩ := mem_lotW ((s2 q).mpr hq)
  have ij : i ≠ j := fun z => ne (by rw [z])
  have L2 : LotOf kts.length (srtN kss.length r) := by rw [e]; exact L
  rw [← won_among L hi hj ij, ← won_among L2 hi hj ij, same]
theorem ring3_at (f : Fine 2 kss) (e : kts.length = kss.length) (J : JK (amongK kss (srtN kss.length [a, b, c])) (amongK kts (srtN kss.length [a, b, c]))) (ha : a < kss.length) (hb : b < kss.length) (hc : c < kss.length) (ab : a ≠ b) (ac : a ≠ c) (bc : b ≠ c)
    (w1 : wonB kss a b = true) (w2 : wonB kss b c = true) (w3 : wonB kss c a = true) : wonB kts a b = true ∧ wonB kts b c = true ∧ wonB kts c a = true := by
  have v1 : wonB kss b a = false := by rw [won_anti f ha hb ab, w1]; rfl
  have v2 : wonB kss c b = false := by rw [won_anti f hb hc bc, w2]; rfl
  have v3 : wonB kss a c = false := by rw [won_anti f hc ha (Ne.symm ac), w3]; rfl
  have nd : [a, b, c].Nodup := by simp [ab, ac, bc]
  have low : ∀ x ∈ [a, b, c], x < kss.length := fun x hx => by
    simp only [List.mem_cons, List.not_mem_nil, or_false] at hx
    rcases hx with rfl | rfl | rfl <;> assumption
  have rig : ∀ p ∈ [a, b, c], ∀ q ∈ [a, b, c], p ≠ q → ∃ m ∈ [a, b, c], m ≠ p ∧ m ≠ q ∧ wonB kss m p ≠ wonB kss m q := by
    intro p hp q hq ne
    simp only [List.mem_cons, List.not_mem_nil, or_false] at hp hq
    rcases hp with rfl | rfl | rfl <;> rcases hq with rfl | rfl | rfl
    · exact absurd rfl ne
    · exact ⟨c, by simp, Ne.symm ac, Ne.symm bc, by rw [w3, v2]; decide⟩
    · exact ⟨b, by simp, Ne.symm ab, bc, by rw [v1, w2]; decide⟩
    · exact ⟨c, by simp, Ne.symm bc, Ne.symm ac, by rw [v2, w3]; decide⟩
    · exact absurd rfl ne
    · exact ⟨a, by simp, ab, ac, by rw [w1, v3]; decide⟩
    · exact ⟨b, by simp, bc, Ne.symm ab, by rw [w2, v1]; decide⟩
    · exact ⟨a, by simp, ac, ab, by rw [v3, w1]; decide⟩
    · exact absurd rfl ne
  have S := rigid_at f e nd low J rig
  exact ⟨by rw [← S a (by simp) b (by simp) ab]; exact w1, by rw [← S b (by simp) c (by simp) bc]; exact w2, by rw [← S c (by simp) a (by simp) (Ne.symm ac)]; exact w3⟩
theorem ring4_at (f : Fine 2 kss) (e : kts.length = kss.length) (J : JK (amongK kss (srtN kss.length [a, b, c, d])) (amongK kts (srtN kss.length [a, b, c, d]))) (ha : a < kss.length) (hb : b < kss.length) (hc : c < kss.length) (hd : d < kss.length) (ab : a ≠ b) (ac : a ≠ c) (bc : b ≠ c) (da : d ≠ a) (db : d ≠ b) (dc : d ≠ c)
    (w1 : wonB kss a b = true) (w2 : wonB kss b c = true) (w3 : wonB kss c a = true) (t : Bool) (u1 : wonB kss d a = t) (u2 : wonB kss d b = t) (u3 : wonB kss d c = t) : ∀ p ∈ [a, b, c, d], ∀ q ∈ [a, b, c, d], p ≠ q → wonB kss p q = wonB kts p q := by
  have v1 : wonB kss b a = false := by rw [won_anti f ha hb ab, w1]; rfl
  have v2 : wonB kss c b = false := by rw [won_anti f hb hc bc, w2]; rfl
  have v3 : wonB kss a c = false := by rw [won_anti f hc ha (Ne.symm ac), w3]; rfl
  have x1 : wonB kss a d = !t := by rw [won_anti f hd ha da, u1]
  have x2 : wonB kss b d = !t := by rw [won_anti f hd hb db, u2]
  have x3 : wonB kss c d = !t := by rw [won_anti f hd hc dc, u3]
  have nd : [a, b, c, d].Nodup := by simp [ab, ac, bc, Ne.symm da, Ne.symm db, Ne.symm dc]
  have low : ∀ x ∈ [a, b, c, d], x < kss.length := fun x hx => by
    simp only [List.mem_cons, List.not_mem_nil, or_false] at hx
    rcases hx with rfl | rfl | rfl | rfl <;> assumption
  refine rigid_at f e nd low J ?_
  intro p hp q hq ne
  have nb : ∀ t : Bool, (true ≠ !t) ∨ (false ≠ !t) := by decide
  -- of a ring and d: with d one of the ring's is found to whom d and it differ
  have key : ∀ x y z : Nat, x ∈ [a, b, c, d] → y ∈ [a, b, c, d] → z ∈ [a, b, c, d] → y ≠ x → z ≠ x → y ≠ d → z ≠ d → wonB kss y x = true → wonB kss z x = false → wonB kss y d = !t → wonB kss z d = !t → (∃ m ∈ [a, b, c, d], m ≠ x ∧ m ≠ d ∧ wonB kss m x ≠ wonB kss m d) := fun x y z hx hy hz yx zx yd zd h1 h2 h3 h4 => by
    cases t with
    | true => exact ⟨y, hy, yx, yd, by rw [h1, h3]; decide⟩
    | false => exact ⟨z, hz, zx, zd, by rw [h2, h4]; decide⟩
  have sw : ∀ x, (∃ m ∈ [a, b, c, d], m ≠ x ∧ m ≠ d ∧ wonB kss m x ≠ wonB kss m d) → ∃ m ∈ [a, b, c, d], m ≠ d ∧ m ≠ x ∧ wonB kss m d ≠ wonB kss m x := fun x ⟨m, h1, h2, h3, h4⟩ => ⟨m, h1, h3, h2, Ne.symm h4⟩
  have ka := key a c b (by simp) (by simp) (by simp) (Ne.symm ac) (Ne.symm ab) (Ne.symm dc) (Ne.symm db) w3 v1 x3 x2
  have kb := key b a c (by simp) (by simp) (by simp) ab (Ne.symm bc) (Ne.symm da) (Ne.symm dc) w1 v2 x1 x3
  have kc := key c b a (by simp) (by simp) (by simp) bc ac (Ne.symm db) (Ne.symm da) w2 v3 x2 x1
  simp only [List.mem_cons, List.not_mem_nil, or_false] at hp hq
  rcases hp with rfl | rfl | rfl | rfl <;> rcases hq with rfl | rfl | rfl | rfl
  · exact absurd rfl ne
  · exact ⟨c, by simp, Ne.symm ac, Ne.symm bc, by rw [w3, v2]; decide⟩
  · exact ⟨b, by simp, Ne.symm ab, bc, by rw [v1, w2]; decide⟩
  · exact ka
  · exact ⟨c, by simp, Ne.symm bc, Ne.symm ac, by rw [v2, w3]; decide⟩
  · exact absurd rfl ne
  · exact ⟨a, by simp, ab, ac, by rw [w1, v3]; decide⟩
  · exact kb
  · exact ⟨b, by simp, bc, Ne.symm ab, by rw [w2, v1]; decide⟩
  · exact ⟨a, by simp, ac, ab, by rw [v3, w1]; decide⟩
  · exact absurd rfl ne
  · exact kc
  · exact sw _ ka
  · exact sw _ kb
  · exact sw _ kc
  · exact absurd rfl ne
/-! ### lots in their order -/
theorem combs_lex (n : Nat) : ∀ r d lo, (Cmb.combs n r d lo).Pairwise fun l m => nums l < nums m
  | 0, d, lo => by
    cases d <;> (rw [Cmb.combs]; exact List.pairwise_singleton _ _)
  | r + 1, 0, lo => by
    rw [Cmb.combs]
    exact .nil
  | r + 1, d + 1, lo => by
    rw [Cmb.combs, List.pairwise_append]
    refine ⟨?_, combs_lex n (r + 1) d (lo + 1), fun l hl m hm => ?_⟩
    · rw [List.pairwise_map]
      refine (combs_lex n r d (lo + 1)).imp fun {l m} h => ?_
      show (((lo : Nat) : Int) :: nums l) < (((lo : Nat) : Int) :: nums m)
      exact List.cons_lt_cons_iff.mpr (.inr ⟨rfl, h⟩)
    · obtain ⟨l', _, rfl⟩ := List.mem_map.mp hl
      cases d with
      | zero =>
        rw [Cmb.combs] at hm
        cases hm
      | succ d =>
        obtain ⟨x, xs, rfl, hx⟩ : ∃ x xs, m = x :: xs ∧ lo < x := by
          have g : ∀ d lo2, lo < lo2 → ∀ m ∈ Cmb.combs n (r + 1) d lo2, ∃ x xs, m = x :: xs ∧ lo < x := fun d => by
            induction d with
            | zero =>
              intro lo2 _ m hm
              rw [Cmb.combs] at hm
              cases hm
            | succ d ih =>
              intro lo2 h m hm
              rw [Cmb.combs] at hm
              rcases List.mem_append.mp hm with z | z
              · obtain ⟨l', _, rfl⟩ := List.mem_map.mp z
                exact ⟨lo2, l', rfl, h⟩
              · exact ih (lo2 + 1) (by omega) m z
          exact g (d + 1) (lo + 1) (by omega) m hm
        show (((lo : Nat) : Int) :: nums l') < (((x : Nat) : Int) :: nums xs)
        exact List.cons_lt_cons_iff.mpr (.inl (by omega))
theorem lex_irr (l : List Int) : ¬ l < l := List.lt_irrefl l
theorem choices_at_lt {i j : Nat} {l l' : List Nat} (h : i < j) (hi : (Cmb.choices n m)[i]? = some l) (hj : (Cmb.choices n m)[j]? = some l') : nums l < nums l' := by
  obtain ⟨i1, i2⟩ := List.getElem?_eq_some_iff.mp hi
  obtain ⟨j1, j2⟩ := List.getElem?_eq_some_iff.mp hj
  have := List.pairwise_iff_getElem.mp (combs_lex n m n 0) i j i1 j1 h
  rw [← i2, ← j2]
  exact this
end
end GL

/-! Leagues of an order with one couple turned: among whom they are of one order. -/
namespace GL
open PySem PySem.Spec PyProof.Rows
open L2 hiding spCell
section
variable {kss kts kus : List (List Int)} {l r os os' : List Nat} {i j a b c d n m p q : Nat}
def transB (k : List (List Int)) : Bool := (List.range k.length).all fun i => (List.range k.length).all fun j => (List.range k.length).all fun m => decide (i = j ∨ j = m ∨ i = m) || (!(wonB k i j && wonB k j m) || wonB k i m)
def insAll (x : Nat) : List Nat → List (List Nat)
  | [] => [[x]]
  | y :: l => (x :: y :: l) :: (insAll x l).map (y :: ·)
def ordersN : Nat → List (List Nat)
  | 0 => [[]]
  | n + 1 => (ordersN n).flatMap (insAll n)
theorem trans_all : ((List.range 5).all fun n => (allL n).all fun k => !transB k || (ordersN n).any fun os => os.isPerm (List.range n) && decide (k = laidK n os)) = true := by decide +kernel
theorem trans_laid {k : List (List Int)} (f : Fine 2 k) (h4 : k.length ≤ 4) (t : transB k = true) : ∃ os, os.Perm (List.range k.length) ∧ k = laidK k.length os := by
  have h1 := List.all_eq_true.mp trans_all k.length (List.mem_range.mpr (by omega))
  have h2 := List.all_eq_true.mp h1 k (allL_mem rfl f)
  rw [t, Bool.not_true, Bool.false_or, List.any_eq_true] at h2
  obtain ⟨os, _, h3⟩ := h2
  rw [Bool.and_eq_true] at h3
  exact ⟨os, List.isPerm_iff.mp h3.1, of_decide_eq_true h3.2⟩
theorem laid_perm (p : os.Perm (List.range m)) (p' : os'.Perm (List.range m)) : JK (laidK m os) (laidK m os') := by
  have := perm_jk (m := m) (mk := laidK m) (fun os pm => laid_by pm) (l := os) (l' := os') (p.trans p'.symm) [] [] (by rw [List.append_nil]; exact p) fun _ _ _ => ⟨rfl, rfl⟩
  rw [List.append_nil, List.append_nil] at this
  exact this
theorem lin_jk {k k' : List (List Int)} (f : Fine 2 k) (f' : Fine 2 k') (e : k'.length = k.length) (h4 : k.length ≤ 4) (t : transB k = true) (t' : transB k' = true) : JK k k' := by
  obtain ⟨os, p, e1⟩ := trans_laid f h4 t
  obtain ⟨os', p', e2⟩ := trans_laid f' (by omega) t'
  rw [e] at p' e2
  have := laid_perm p p'
  rw [← e1, ← e2] at this
  exact this
def TransOn (kss : List (List Int)) (l : List Nat) : Prop := ∀ p ∈ l, ∀ q ∈ l, ∀ s ∈ l, p ≠ q → q ≠ s → p ≠ s → wonB kss p q = true → wonB kss q s = true → wonB kss p s = true
theorem among_trans (L : LotOf kss.length l) (h : TransOn kss l) : transB (amongK kss l) = true := by
  unfold transB
  rw [among_len]
  refine List.all_eq_true.mpr fun i hi => List.all_eq_true.mpr fun j hj => List.all_eq_true.mpr fun m hm => ?_
  have hi := List.mem_range.mp hi
  have hj := List.mem_range.mp hj
  have hm := List.mem_range.mp hm
  by_cases c : i = j ∨ j = m ∨ i = m
  · rw [decide_eq_true c, Bool.true_or]
  · rw [decide_eq_false c, Bool.false_or]
    have ij : i ≠ j := fun z => c (.inl z)
    have jm : j ≠ m := fun z => c (.inr (.inl z))
    have im : i ≠ m := fun z => c (.inr (.inr z))
    rw [won_among L hi hj ij, won_among L hj hm jm, won_among L hi hm im]
    cases w1 : wonB kss (lotW l i) (lotW l j) with
    | false => rfl
    | true =>
      cases w2 : wonB kss (lotW l j) (lotW l m) with
      | false => rfl
      | true =>
        have := h _ (lotW_mem hi) _ (lotW_mem hj) _ (lotW_mem hm) (L.ne hi hj ij) (L.ne hj hm jm) (L.ne hi hm im) w1 w2
        rw [this]
        rfl
theorem lin_among (f : Fine 2 kss) (g : Fine 2 kts) (e : kts.length = kss.length) (L : LotOf kss.length l) (h4 : l.length ≤ 4) (t : TransOn kss l) (t' : TransOn kts l) : JK (amongK kss l) (amongK kts l) := by
  have L2 : LotOf kts.length l := by rw [e]; exact L
  exact lin_jk (among_fine f L) (among_fine g L2) (by rw [among_len, among_len]) (by rw [among_len]; exact h4) (among_trans L t) (among_trans L2 t')
/-- by ranks -/
theorem rank_trans (rk : Nat → Nat) (h : ∀ p ∈ l, ∀ q ∈ l, p ≠ q → wonB kss p q = decide (rk p < rk q)) : TransOn kss l := fun p hp q hq s hs pq qs ps w1 w2 => by
  rw [h p hp q hq pq] at w1
  rw [h q hq s hs qs] at w2
  rw [h p hp s hs ps]
  have := of_decide_eq_true w1
  have := of_decide_eq_true w2
  exact decide_eq_true (by omega)
def ringK (n : Nat) (os : List Nat) (a b : Nat) : List (List Int) := turnK (laidK n os) (min a b) (max a b)
theorem ring_len : (ringK n os a b).length = n := by
  unfold ringK
  rw [turnK_len, laid_len]
theorem ring_fine (ab : a ≠ b) (ha : a < n) (hb : b < n) : Fine 2 (ringK n os a b) := turnK_fine (laid_fine n os) (by omega) (by rw [laid_len]; omega)
theorem ring_won (pm : os.Perm (List.range n)) (ab : a ≠ b) (ha : a < n) (hb : b < n) (hp : p < n) (hq : q < n) (pq : p ≠ q) : wonB (ringK n os a b) p q = (decide (os.idxOf p < os.idxOf q) ^^ decide ((p = a ∧ q = b) ∨ (p = b ∧ q = a))) := by
  have L := laid_turn pm (a := min a b) (b := max a b) (by omega) (by omega)
  unfold ringK
  rw [L.won p q hp hq pq]
  congr 1
  exact decide_eq_decide.mpr (by omega)
theorem idx_ne (pm : os.Perm (List.range n)) (hp : p < n) (hq : q < n) (pq : p ≠ q) : os.idxOf p ≠ os.idxOf q := fun e => by
  have mp : p ∈ os := pm.mem_iff.mpr (List.mem_range.mpr hp)
  have mq : q ∈ os := pm.mem_iff.mpr (List.mem_range.mpr hq)
  have h1 := List.getElem_idxOf (List.idxOf_lt_length_of_mem mp)
  have h2 := List.getElem_idxOf (List.idxOf_lt_length_of_mem mq)
  simp only [e] at h1
  exact pq (h1.symm.trans h2)
theorem laid_trans (pm : os.Perm (List.range n)) (L : LotOf n l) : TransOn (laidK n os) l := rank_trans (os.idxOf ·) fun p hp q hq pq => laid_won pm (L.low p hp) (L.low q hq) pq
/-- among people none of whom stands between the two, an order with the two turned is an order -/
theorem ring_trans (pm : os.Perm (List.range n)) (ab : a ≠ b) (ha : a < n) (hb : b < n) (lt : os.idxOf a < os.idxOf b) (L : LotOf n l) (no : a ∈ l → b ∈ l → ∀ c ∈ l, ¬ (os.idxOf a < os.idxOf c ∧ os.idxOf c < os.idxOf b)) : TransOn (ringK n os a b) l := by
  by_cases c : a ∈ l ∧ b ∈ l
  · refine rank_trans (fun p => if p = a then os.idxOf b else if p = b then os.idxOf a else os.idxOf p) fun p hp q hq pq => ?_
    rw [ring_won pm ab ha hb (L.low p hp) (L.low q hq) pq]
    have np := no c.1 c.2 p hp
    have nq := no c.1 c.2 q hq
    have i1 := idx_ne pm (L.low p hp) (L.low q hq) pq
    have key : ∀ (P Q : Prop) [Decidable P] [Decidable Q] (R : Prop) [Decidable R], (R ↔ ¬ (P ↔ Q)) → (decide P ^^ decide Q) = decide R := fun P Q _ _ R _ h => by
      by_cases hP : P <;> by_cases hQ : Q <;> by_cases hR : R <;> simp_all
    refine key _ _ _ ?_
    by_cases pa : p = a
    · subst pa
      have i3 := idx_ne pm (L.low p hp) hb ab
      by_cases qb : q = b
      · subst qb
        simp only [if_pos rfl, if_neg (Ne.symm ab)]
        simp [ab]
        omega
      · simp only [if_pos rfl, if_neg (Ne.symm pq), if_neg qb]
        have i2 := idx_ne pm (L.low q hq) hb qb
        simp [qb, ab]
        omega
    · by_cases pb : p = b
      · subst pb
        by_cases qa : q = a
        · subst qa
          simp only [if_pos rfl, if_neg pa]
          simp [ab]
          omega
        · simp only [if_neg pa, if_pos rfl, if_neg qa, if_neg (Ne.symm pq)]
          have i2 := idx_ne pm (L.low q hq) ha qa
          simp [qa, pa]
          omega
      · by_cases qa : q = a
        · subst qa
          simp only [if_neg pa, if_neg pb, if_pos rfl]
          have i2 := idx_ne pm (L.low p hp) hb pb
          simp [pa, pb]
          omega
        · by_cases qb : q = b
          · subst qb
            simp only [if_neg pa, if_neg pb, if_neg qa, if_pos rfl]
            have i2 := idx_ne pm (L.low p hp) ha pa
            simp [pa, pb]
            omega
          · simp only [if_neg pa, if_neg pb, if_neg qa, if_neg qb]
            simp [pa, pb]
  · refine rank_trans (os.idxOf ·) fun p hp q hq pq => ?_
    have nf : ¬ ((p = a ∧ q = b) ∨ (p = b ∧ q = a)) := by
      rintro (⟨rfl, rfl⟩ | ⟨rfl, rfl⟩)
      · exact c ⟨hp, hq⟩
      · exact c ⟨hq, hp⟩
    rw [ring_won pm ab ha hb (L.low p hp) (L.low q hq) pq, decide_eq_false nf, Bool.xor_false]
end
end GL

namespace K58
open PySem PySem.Spec PyProof.Rows
open L2 hiding spCell
open GL
section
variable {kss kts kus : List (List Int)} {l l0 r os os' : List Nat} {i j a b c d n m p q x y z w : Nat}
theorem srt_mem {n : Nat} {r : List Nat} (low : ∀ x ∈ r, x < n) {p : Nat} : p ∈ srtN n r ↔ p ∈ r := (srt_of low).2 p
theorem srt_lot {n : Nat} {r : List Nat} (low : ∀ x ∈ r, x < n) : LotOf n (srtN n r) := ⟨(srt_of low).1, fun x hx => low x ((srt_mem low).mp hx)⟩
theorem srt_len {n : Nat} {r : List Nat} (low : ∀ x ∈ r, x < n) (nd : r.Nodup) : (srtN n r).length = r.length :=
  ((List.perm_ext_iff_of_nodup ((srt_of low).1.imp fun h => Nat.ne_of_lt h) nd).mpr (srt_of low).2).length_eq
/-- a lot that holds as many others as it has is they -/
theorem lot_is (L : LotOf n l) (nd : r.Nodup) (sub : ∀ x ∈ r, x ∈ l) (len : l.length = r.length) : l = srtN n r := by
  have low : ∀ x ∈ r, x < n := fun x hx => L.low x (sub x hx)
  have back : ∀ x ∈ l, x ∈ r := fun x hx => Classical.byContradiction fun no => by
    have := List.Nodup.length_le_of_subset (l₁ := x :: r) (l₂ := l) (List.nodup_cons.mpr ⟨no, nd⟩) fun y hy => by
      rcases List.mem_cons.mp hy with e | e
      · rw [e]
        exact hx
      · exact sub y e
    rw [List.length_cons] at this
    omega
  exact srt_eq (r := l) (r' := r) ⟨L.up, fun x => Iff.rfl⟩ (srt_of low) fun x => ⟨back x, sub x⟩
theorem partAt_at (h0 : l0 ∈ Cmb.choices kss.length m) (no : ¬ JK (amongK kss l0) (amongK kts l0)) (least : ∀ l' ∈ Cmb.choices kss.length m, ¬ JK (amongK kss l') (amongK kts l') → ¬ nums l' < nums l0) : PartAt kss kts m l0 := by
  obtain ⟨i, hi⟩ := List.mem_iff_getElem?.mp h0
  refine ⟨i, hi, no, fun j l' hj hl' => Classical.byContradiction fun z => ?_⟩
  exact least l' (List.mem_of_getElem? hl') z (choices_at_lt hj hl' hi)
theorem partAt_swap (f : Fine 2 kss) (fu : Fine 2 kus) (g : Fine 2 kts) (e : kts.length = kss.length) (J : JK kss kus) (h : PartAt kss kts m l) : PartAt kts kus m l := by
  obtain ⟨i, ei, no, old⟩ := h
  refine ⟨i, by rw [e]; exact ei, fun z => no ?_, fun j l' hj hl' => ?_⟩
  · have L := (lot_choices.mp (List.mem_of_getElem? ei)).1
    have L2 : LotOf kts.length l := by rw [e]; exact L
    exact (jk_among f L J).trans (z.symm (among_fine g L2))
  · rw [e] at hl'
    have L := (lot_choices.mp (List.mem_of_getElem? hl')).1
    exact ((old j l' hj hl').symm (among_fine f L)).trans (jk_among f L J)
/-! ### an order and the same with a couple turned -/
theorem bent_jk (pm : os.Perm (List.range n)) (ab : a ≠ b) (ha : a < n) (hb : b < n) (lt : os.idxOf a < os.idxOf b) (L : LotOf n l) (h4 : l.length ≤ 4) (no : a ∈ l → b ∈ l → ∀ c ∈ l, ¬ (os.idxOf a < os.idxOf c ∧ os.idxOf c < os.idxOf b)) : JK (amongK (laidK n os) l) (amongK (ringK n os a b) l) :=
  lin_among (laid_fine n os) (ring_fine ab ha hb) (by rw [ring_len, laid_len]) (by rw [laid_len]; exact L) h4 (laid_trans pm L) (ring_trans pm ab ha hb lt L no)
theorem bent_not (pm : os.Perm (List.range n)) (ha : a < n) (hb : b < n) (hc : c < n) (l1 : os.idxOf a < os.idxOf c) (l2 : os.idxOf c < os.idxOf b) : ¬ JK (amongK (laidK n os) (srtN n [a, c, b])) (amongK (ringK n os a b) (srtN n [a, c, b])) := fun J => by
  have ac : a ≠ c := fun e => by rw [e] at l1; omega
  have cb : c ≠ b := fun e => by rw [e] at l2; omega
  have ab : a ≠ b := fun e => by rw [e] at l1; omega
  have low : ∀ x ∈ [a, c, b], x < n := fun x hx => by
    simp only [List.mem_cons, List.not_mem_nil, or_false] at hx
    rcases hx with rfl | rfl | rfl <;> assumption
  have L : LotOf (laidK n os).length (srtN n [a, c, b]) := by rw [laid_len]; exact srt_lot low
  have J' := J.symm (among_fine (laid_fine n os) L)
  have fr : Fine 2 (ringK n os a b) := ring_fine ab ha hb
  have w : ∀ {p q : Nat}, p < n → q < n → p ≠ q → wonB (ringK n os a b) p q = (decide (os.idxOf p < os.idxOf q) ^^ decide ((p = a ∧ q = b) ∨ (p = b ∧ q = a))) := fun hp hq pq => ring_won pm ab ha hb hp hq pq
  have len : (ringK n os a b).length = n := ring_len
  have w1 : wonB (ringK n os a b) a c = true := by
    rw [w ha hc ac, decide_eq_true l1, decide_eq_false (by omega)]
    rfl
  have w2 : wonB (ringK n os a b) c b = true := by
    rw [w hc hb cb, decide_eq_true l2, decide_eq_false (by omega)]
    rfl
  have w3 : wonB (ringK n os a b) b a = true := by
    rw [w hb ha (Ne.symm ab), decide_eq_false (by omega), decide_eq_true (by omega)]
    rfl
  have := (ring3_at (kss := ringK n os a b) (kts := laidK n os) fr (by rw [len, laid_len]) (by rw [len]; exact J') (by rw [len]; exact ha) (by rw [len]; exact hc) (by rw [len]; exact hb) ac ab cb w1 w2 w3).2.2
  rw [laid_won pm hb ha (Ne.symm ab), decide_eq_false (by omega)] at this
  cases this
theorem bent_part (pm : os.Perm (List.range n)) (ha : a < n) (hb : b < n) (hc : c < n) (l1 : os.idxOf a < os.idxOf c) (l2 : os.idxOf c < os.idxOf b)
    (least : ∀ d, d < n → os.idxOf a < os.idxOf d → os.idxOf d < os.idxOf b → ¬ nums (srtN n [a, d, b]) < nums (srtN n [a, c, b])) : PartAt (laidK n os) (ringK n os a b) 3 (srtN n [a, c, b]) := by
  have ab : a ≠ b := fun e => by rw [e] at l1; omega
  have low : ∀ {d : Nat}, d < n → ∀ x ∈ [a, d, b], x < n := fun hd x hx => by
    simp only [List.mem_cons, List.not_mem_nil, or_false] at hx
    rcases hx with rfl | rfl | rfl <;> assumption
  have nd : ∀ {d : Nat}, os.idxOf a < os.idxOf d → os.idxOf d < os.idxOf b → [a, d, b].Nodup := fun {d} h1 h2 => by
    have e1 : a ≠ d := fun e => by rw [e] at h1; omega
    have e2 : d ≠ b := fun e => by rw [e] at h2; omega
    simp [e1, e2, ab]
  refine partAt_at (by rw [laid_len]; exact lot_choices.mpr ⟨srt_lot (low hc), srt_len (low hc) (nd l1 l2)⟩) (bent_not pm ha hb hc l1 l2) fun l' hl' no => ?_
  rw [laid_len] at hl'
  obtain ⟨L, len⟩ := lot_choices.mp hl'
  by_cases yes : ∃ d, a ∈ l' ∧ b ∈ l' ∧ d ∈ l' ∧ os.idxOf a < os.idxOf d ∧ os.idxOf d < os.idxOf b
  · obtain ⟨d, h1, h2, h3, h4, h5⟩ := yes
    have e := lot_is L (nd h4 h5) (fun x hx => by
      simp only [List.mem_cons, List.not_mem_nil, or_false] at hx
      rcases hx with rfl | rfl | rfl <;> assumption) len
    rw [e]
    exact least d (L.low d h3) h4 h5
  · exact absurd (bent_jk pm ab ha hb (by omega) L (by omega) fun h1 h2 d h3 h4 => yes ⟨d, h1, h2, h3, h4.1, h4.2⟩) no
end
end K58

namespace K58
open PySem PySem.Spec PyProof.Rows
open L2 hiding spCell
open GL
section
variable {pre l : List Nat} {n p q x y z w : Nat}
theorem idx_app (u v : List Nat) (a : Nat) : (u ++ v).idxOf a = if a ∈ u then u.idxOf a else v.idxOf a + u.length := by
  rw [List.idxOf_append]
/-- the same order with the last one ahead of the three -/
structure Fours (n : Nat) (pre : List Nat) (x y z w : Nat) : Prop where
  pm : (pre ++ [x, y, z, w]).Perm (List.range n)
theorem Fours.pm2 (F : Fours n pre x y z w) : (pre ++ [w, x, y, z]).Perm (List.range n) := by
  refine List.Perm.trans (List.Perm.append_left pre ?_) F.pm
  exact (List.perm_append_comm (l₁ := [w]) (l₂ := [x, y, z]))
theorem Fours.nd (F : Fours n pre x y z w) : (pre ++ [x, y, z, w]).Nodup := F.pm.nodup_iff.mpr List.nodup_range
theorem Fours.ne (F : Fours n pre x y z w) : x ≠ y ∧ x ≠ z ∧ x ≠ w ∧ y ≠ z ∧ y ≠ w ∧ z ≠ w := by
  have := (List.nodup_append.mp F.nd).2.1
  simp at this
  omega
theorem Fours.out (F : Fours n pre x y z w) (h : p ∈ [x, y, z, w]) : p ∉ pre := fun m => (List.nodup_append.mp F.nd).2.2 p m p h rfl
theorem Fours.low (F : Fours n pre x y z w) (h : p ∈ [x, y, z, w]) : p < n := List.mem_range.mp (F.pm.mem_iff.mp (List.mem_append_right _ h))
theorem Fours.idx (F : Fours n pre x y z w) : (pre ++ [x, y, z, w]).idxOf x = pre.length ∧ (pre ++ [x, y, z, w]).idxOf y = pre.length + 1 ∧ (pre ++ [x, y, z, w]).idxOf z = pre.length + 2 ∧ (pre ++ [x, y, z, w]).idxOf w = pre.length + 3 := by
  obtain ⟨n1, n2, n3, n4, n5, n6⟩ := F.ne
  have o1 := F.out (p := x) (by simp)
  have o2 := F.out (p := y) (by simp)
  have o3 := F.out (p := z) (by simp)
  have o4 := F.out (p := w) (by simp)
  refine ⟨?_, ?_, ?_, ?_⟩
  · rw [idx_app, if_neg o1]
    simp [List.idxOf_cons]
  · rw [idx_app, if_neg o2]
    simp [List.idxOf_cons, n1, beq_eq_false_iff_ne.mpr n1]
    omega
  · rw [idx_app, if_neg o3]
    simp [List.idxOf_cons, beq_eq_false_iff_ne.mpr n2, beq_eq_false_iff_ne.mpr n4]
    omega
  · rw [idx_app, if_neg o4]
    simp [List.idxOf_cons, beq_eq_false_iff_ne.mpr n3, beq_eq_false_iff_ne.mpr n5, beq_eq_false_iff_ne.mpr n6]
    omega
theorem Fours.idx2 (F : Fours n pre x y z w) : (pre ++ [w, x, y, z]).idxOf w = pre.length ∧ (pre ++ [w, x, y, z]).idxOf x = pre.length + 1 ∧ (pre ++ [w, x, y, z]).idxOf y = pre.length + 2 ∧ (pre ++ [w, x, y, z]).idxOf z = pre.length + 3 := by
  obtain ⟨n1, n2, n3, n4, n5, n6⟩ := F.ne
  have G : Fours n pre w x y z := ⟨F.pm2⟩
  exact G.idx
theorem Fours.idxp (F : Fours n pre x y z w) (hp : p < n) : (p ∈ pre ∧ (pre ++ [x, y, z, w]).idxOf p < pre.length ∧ (pre ++ [w, x, y, z]).idxOf p = (pre ++ [x, y, z, w]).idxOf p) ∨ p = x ∨ p = y ∨ p = z ∨ p = w := by
  have m : p ∈ pre ++ [x, y, z, w] := F.pm.mem_iff.mpr (List.mem_range.mpr hp)
  rcases List.mem_append.mp m with h | h
  · refine .inl ⟨h, ?_, ?_⟩
    · rw [idx_app, if_pos h]
      exact List.idxOf_lt_length_of_mem h
    · rw [idx_app, idx_app, if_pos h, if_pos h]
  · simp only [List.mem_cons, List.not_mem_nil, or_false] at h
    exact .inr h
def aboK (n : Nat) (pre : List Nat) (x y z w : Nat) : List (List Int) := ringK n (pre ++ [x, y, z, w]) x z
def benK (n : Nat) (pre : List Nat) (x y z w : Nat) : List (List Int) := ringK n (pre ++ [w, x, y, z]) x z
theorem Fours.fine1 (F : Fours n pre x y z w) : Fine 2 (aboK n pre x y z w) := ring_fine F.ne.2.1 (F.low (by simp)) (F.low (by simp))
theorem Fours.fine2 (F : Fours n pre x y z w) : Fine 2 (benK n pre x y z w) := ring_fine F.ne.2.1 (F.low (by simp)) (F.low (by simp))
theorem Fours.same (F : Fours n pre x y z w) (hp : p < n) (hq : q < n) (pq : p ≠ q) (pw : p ≠ w) (qw : q ≠ w) : wonB (aboK n pre x y z w) p q = wonB (benK n pre x y z w) p q := by
  obtain ⟨n1, n2, n3, n4, n5, n6⟩ := F.ne
  obtain ⟨i1, i2, i3, i4⟩ := F.idx
  obtain ⟨j4, j1, j2, j3⟩ := F.idx2
  unfold aboK benK
  rw [ring_won F.pm n2 (F.low (by simp)) (F.low (by simp)) hp hq pq, ring_won F.pm2 n2 (F.low (by simp)) (F.low (by simp)) hp hq pq]
  congr 1
  refine decide_eq_decide.mpr ?_
  rcases F.idxp hp with ⟨_, a1, a2⟩ | rfl | rfl | rfl | rfl <;> rcases F.idxp hq with ⟨_, b1, b2⟩ | rfl | rfl | rfl | rfl <;> first | exact absurd rfl pw | exact absurd rfl qw | exact absurd rfl pq | omega
theorem Fours.jk (F : Fours n pre x y z w) (L : LotOf n l) (h4 : l.length ≤ 4) (no : ¬ (x ∈ l ∧ y ∈ l ∧ z ∈ l ∧ w ∈ l)) : JK (amongK (aboK n pre x y z w) l) (amongK (benK n pre x y z w) l) := by
  obtain ⟨n1, n2, n3, n4, n5, n6⟩ := F.ne
  obtain ⟨i1, i2, i3, i4⟩ := F.idx
  obtain ⟨j4, j1, j2, j3⟩ := F.idx2
  have len : (benK n pre x y z w).length = (aboK n pre x y z w).length := by unfold aboK benK; rw [ring_len, ring_len]
  have L1 : LotOf (aboK n pre x y z w).length l := by unfold aboK; rw [ring_len]; exact L
  by_cases hw : w ∈ l
  · refine lin_among F.fine1 F.fine2 len L1 h4 ?_ ?_
    · refine ring_trans F.pm n2 (F.low (by simp)) (F.low (by simp)) (by omega) L fun hx hz c hc h => ?_
      rcases F.idxp (L.low c hc) with ⟨_, a1, _⟩ | rfl | rfl | rfl | rfl
      · omega
      · omega
      · exact no ⟨hx, hc, hz, hw⟩
      · omega
      · omega
    · refine ring_trans F.pm2 n2 (F.low (by simp)) (F.low (by simp)) (by omega) L fun hx hz c hc h => ?_
      rcases F.idxp (L.low c hc) with ⟨_, a1, a2⟩ | rfl | rfl | rfl | rfl
      · omega
      · omega
      · exact no ⟨hx, hc, hz, hw⟩
      · omega
      · omega
  · have e : amongK (aboK n pre x y z w) l = amongK (benK n pre x y z w) l := by
      refine among_same L1 len fun p hp q hq pq => ?_
      refine won_tie F.fine1 F.fine2 len (L1.low p hp) (L1.low q hq) pq ?_
      exact F.same (L.low p hp) (L.low q hq) pq (fun e => hw (e ▸ hp)) (fun e => hw (e ▸ hq))
    rw [e]
    exact .refl
theorem Fours.lot (F : Fours n pre x y z w) : LotOf n (srtN n [x, y, z, w]) ∧ (srtN n [x, y, z, w]).length = 4 := by
  have low : ∀ p ∈ [x, y, z, w], p < n := fun p hp => F.low hp
  exact ⟨srt_lot low, srt_len low (List.nodup_append.mp F.nd).2.1⟩
theorem Fours.not (F : Fours n pre x y z w) : ¬ JK (amongK (aboK n pre x y z w) (srtN n [x, y, z, w])) (amongK (benK n pre x y z w) (srtN n [x, y, z, w])) := fun J => by
  obtain ⟨n1, n2, n3, n4, n5, n6⟩ := F.ne
  obtain ⟨i1, i2, i3, i4⟩ := F.idx
  obtain ⟨j4, j1, j2, j3⟩ := F.idx2
  have lx := F.low (p := x) (by simp)
  have ly := F.low (p := y) (by simp)
  have lz := F.low (p := z) (by simp)
  have lw := F.low (p := w) (by simp)
  have e1 : (aboK n pre x y z w).length = n := ring_len
  have e2 : (benK n pre x y z w).length = n := ring_len
  have W : ∀ {p q : Nat}, p < n → q < n → p ≠ q → wonB (aboK n pre x y z w) p q = (decide ((pre ++ [x, y, z, w]).idxOf p < (pre ++ [x, y, z, w]).idxOf q) ^^ decide ((p = x ∧ q = z) ∨ (p = z ∧ q = x))) := fun hp hq pq => ring_won F.pm n2 lx lz hp hq pq
  have w1 : wonB (aboK n pre x y z w) x y = true := by
    rw [W lx ly n1, decide_eq_true (by omega), decide_eq_false (by omega)]
    rfl
  have w2 : wonB (aboK n pre x y z w) y z = true := by
    rw [W ly lz n4, decide_eq_true (by omega), decide_eq_false (by omega)]
    rfl
  have w3 : wonB (aboK n pre x y z w) z x = true := by
    rw [W lz lx (Ne.symm n2), decide_eq_false (by omega), decide_eq_true (by omega)]
    rfl
  have u : ∀ {p : Nat}, p < n → w ≠ p → p ≠ w → (pre ++ [x, y, z, w]).idxOf p < pre.length + 3 → wonB (aboK n pre x y z w) w p = false := fun hp h1 h2 h3 => by
    rw [W lw hp h1, decide_eq_false (by omega), decide_eq_false (by omega)]
    rfl
  have S := ring4_at (kss := aboK n pre x y z w) (kts := benK n pre x y z w) F.fine1 (by rw [e1, e2]) (by rw [e1]; exact J) (by rw [e1]; exact lx) (by rw [e1]; exact ly) (by rw [e1]; exact lz) (by rw [e1]; exact lw) n1 n2 n4 (Ne.symm n3) (Ne.symm n5) (Ne.symm n6) w1 w2 w3 false (u lx (Ne.symm n3) n3 (by omega)) (u ly (Ne.symm n5) n5 (by omega)) (u lz (Ne.symm n6) n6 (by omega)) w (by simp) x (by simp) (Ne.symm n3)
  rw [u lx (Ne.symm n3) n3 (by omega)] at S
  have : wonB (benK n pre x y z w) w x = true := by
    show wonB (ringK n (pre ++ [w, x, y, z]) x z) w x = true
    rw [ring_won F.pm2 n2 lx lz lw lx (Ne.symm n3), decide_eq_true (by omega), decide_eq_false (by omega)]
    rfl
  rw [this] at S
  cases S
theorem Fours.part (F : Fours n pre x y z w) : Part (aboK n pre x y z w) (benK n pre x y z w) (srtN n [x, y, z, w]) := by
  have e1 : (aboK n pre x y z w).length = n := ring_len
  have nd := (List.nodup_append.mp F.nd).2.1
  refine .inr ⟨fun l hl => ?_, partAt_at (by rw [e1]; exact lot_choices.mpr F.lot) F.not fun l' hl' no => ?_⟩
  · rw [e1] at hl
    obtain ⟨L, len⟩ := lot_choices.mp hl
    refine F.jk L (by omega) fun h => ?_
    have := List.Nodup.length_le_of_subset nd (l₂ := l) fun p hp => by
      simp only [List.mem_cons, List.not_mem_nil, or_false] at hp
      rcases hp with rfl | rfl | rfl | rfl
      · exact h.1
      · exact h.2.1
      · exact h.2.2.1
      · exact h.2.2.2
    rw [len] at this
    simp at this
  · rw [e1] at hl'
    obtain ⟨L, len⟩ := lot_choices.mp hl'
    by_cases h : x ∈ l' ∧ y ∈ l' ∧ z ∈ l' ∧ w ∈ l'
    · have e := lot_is L nd (fun p hp => by
        simp only [List.mem_cons, List.not_mem_nil, or_false] at hp
        rcases hp with rfl | rfl | rfl | rfl
        · exact h.1
        · exact h.2.1
        · exact h.2.2.1
        · exact h.2.2.2) len
      rw [e]
      exact lex_irr _
    · exact absurd (F.jk L (by omega) h) no
end
end K58

/-! The least of a list of lists of numbers. -/
namespace GL
open PySem PySem.Spec PyProof.Rows
open L2 hiding spCell
def rwN (l : List Nat) : PyData := rowP (nums l)
theorem lt_rwN (l m : List Nat) : PySem.W.dataLt (rwN l) (rwN m) = decide (nums l < nums m) := by
  unfold rwN rowP
  rw [PySem.W.dataLt_list]
  exact PySem.W.dataLt_ints (nums l) (nums m)
def minR (c : List Nat) (cs : List (List Nat)) : List Nat := cs.foldl (fun a y => if nums y < nums a then y else a) c
theorem min_rwN : ∀ (cs : List (List Nat)) (c : List Nat), PySem.W.minD (rwN c) (cs.map rwN) = rwN (minR c cs)
  | [], c => rfl
  | d :: cs, c => by
    unfold PySem.W.minD minR
    rw [List.map_cons, List.foldl_cons, List.foldl_cons, lt_rwN]
    have ih := min_rwN cs (if nums d < nums c then d else c)
    unfold PySem.W.minD minR at ih
    rw [← ih]
    congr 1
    by_cases h : nums d < nums c
    · rw [decide_eq_true h, if_pos rfl, if_pos h]
    · rw [decide_eq_false h, if_neg (by decide), if_neg h]
theorem minR_le : ∀ (cs : List (List Nat)) (c : List Nat), ∀ u ∈ c :: cs, ¬ nums u < nums (minR c cs)
  | [], c, u, h => by
    rw [List.mem_singleton] at h
    subst h
    exact lex_irr _
  | d :: cs, c, u, h => by
    have ih := minR_le cs (if nums d < nums c then d else c)
    have e : minR c (d :: cs) = minR (if nums d < nums c then d else c) cs := rfl
    rw [e]
    have tr : ∀ {x y z : List Int}, ¬ y < x → ¬ z < y → ¬ z < x := fun {x y z} h1 h2 => by
      have a : x ≤ y := h1
      have b : y ≤ z := h2
      exact List.le_trans a b
    have h0 := ih _ (List.mem_cons_self ..)
    rcases List.mem_cons.mp h with z | z
    · subst z
      refine tr h0 ?_
      by_cases k : nums d < nums u
      · rw [if_pos k]
        exact fun z => lex_irr _ (List.lt_trans z k)
      · rw [if_neg k]
        exact lex_irr _
    · rcases List.mem_cons.mp z with y | y
      · subst y
        refine tr h0 ?_
        by_cases k : nums u < nums c
        · rw [if_pos k]
          exact lex_irr _
        · rw [if_neg k]
          exact k
      · exact ih u (List.mem_cons_of_mem _ y)
theorem rwN_inj {c d : List Nat} (h : rwN c = rwN d) : c = d := by
  unfold rwN rowP at h
  injection h with h
  have h1 := map_injF (f := PyData.int) (P := fun _ => True) (fun a b _ _ e => PyData.int.inj e) (fun _ _ => trivial) (fun _ _ => trivial) h
  exact map_injF (f := fun j : Nat => (j : Int)) (P := fun _ => True) (fun a b _ _ e => by omega) (fun _ _ => trivial) (fun _ _ => trivial) h1
theorem depth_rwN (l : List Nat) : (rwN l).depth ≤ 3 := by
  have h : PyData.depthAll ((nums l).map PyData.int) ≤ 2 := depthAll_of (n := 2) fun e he => by
    obtain ⟨x, _, rfl⟩ := List.mem_map.mp he
    simp only [PyData.depth]
    omega
  show (PyData.list ((nums l).map PyData.int)).depth ≤ 3
  simp only [PyData.depth]
  omega
theorem dp_rwN {K : PySem.W.Frag} {H : Hp} {p : Addr} {l : List Nat} (h : H p = some (.lst (natV l))) : Dp K H (.ref p) (rwN l) := by
  unfold rwN
  exact .lst (SqL.of (by rw [h, natV_nums])) (dpAll_ints _)
def rMinR (K : PySem.W.Frag) : List V → Hp → VK → Prop := fun vs H Q => ∃ (a : Addr) (ts : List (Addr × List Nat)), vs = [.ref a] ∧ H a = some (.lst (ts.map fun t => V.ref t.1)) ∧ (∀ t ∈ ts, H t.1 = some (.lst (natV t.2))) ∧ ts ≠ [] ∧ ∀ t ∈ ts, (∀ u ∈ ts, ¬ nums u.2 < nums t.2) → Q (.ref t.1) H
section
variable {X : Cx}
theorem cr_minR (hc : X.calm = true) (hu : X.A.units + 64 < cLine) : CallR X (.builtin "min") (rMinR X.K) := by
  intro pins s σ H vs us Q I r h
  obtain ⟨a, ts, rfl, ha, hr, ne, q⟩ := h
  obtain ⟨its, rv, hl, _⟩ := I.list (SqL.of ha)
  rw [Vals.ref1 r]
  obtain ⟨t0, tr, e0⟩ := List.exists_cons_of_ne_nil ne
  have dall : DpAll X.K H (ts.map fun t => V.ref t.1) (ts.map fun t => rwN t.2) := by
    have : ∀ us : List (Addr × List Nat), (∀ t ∈ us, H t.1 = some (.lst (natV t.2))) → DpAll X.K H (us.map fun t => V.ref t.1) (us.map fun t => rwN t.2) := by
      intro us
      induction us with
      | nil => exact fun _ => .nil
      | cons t us ih => exact fun h => .cons (dp_rwN (h t (List.mem_cons_self ..))) (ih fun u hu => h u (List.mem_cons_of_mem _ hu))
    exact this ts hr
  obtain ⟨as, rs⟩ := Dp.readsAll I _ _ its dall rv
  obtain ⟨cs, hcs⟩ : ∃ cs, cs = tr.map (·.2) := ⟨_, rfl⟩
  have hs : (ts.map fun t => rwN t.2) = rwN t0.2 :: cs.map rwN := by
    rw [e0, hcs, List.map_cons, List.map_map]
    rfl
  rw [hs] at rs
  have dd : PyData.depthAll (rwN t0.2 :: cs.map rwN) ≤ 5 := by
    refine depthAll_of (n := 5) fun e he => ?_
    rw [← List.map_cons] at he
    obtain ⟨c, _, rfl⟩ := List.mem_map.mp he
    exact Nat.le_trans (depth_rwN c) (by decide)
  refine PySem.W.min_list_data (I.ok.hd hc) hl.isList rs ⟨fun x hx y hy => ?_, fun x hx z => ?_⟩ (by omega) fun i v h' tk bs hi hrd hk => ?_
  · rw [← List.map_cons] at hx hy
    obtain ⟨c, _, rfl⟩ := List.mem_map.mp hx
    obtain ⟨d, _, rfl⟩ := List.mem_map.mp hy
    unfold rwN rowP
    simp only [PySem.W.alike]
    exact PySem.W.alike_ints _ _
  · rw [← List.map_cons] at hx
    obtain ⟨c, _, rfl⟩ := List.mem_map.mp hx
    cases z
  · have hi' : its[i]? = some v := by
      rw [← hi]
      simp
    cases et : ts[i]? with
    | none =>
      have := rv.none_of (i := i) (by rw [List.getElem?_map, et]; rfl)
      rw [this] at hi'
      cases hi'
    | some t =>
      obtain ⟨v', hv', rx⟩ := rv.get (i := i) (x := .ref t.1) (by rw [List.getElem?_map, et]; rfl)
      rw [hi'] at hv'
      cases hv'
      have tm := List.mem_of_getElem? et
      obtain ⟨bs', r0⟩ := Dp.reads I (rwN t.2) (.ref t.1) v (dp_rwN (hr t tm)) rx
      have de := (reads_det (fun b o e _ => hk b o e) r0 hrd).1
      rw [min_rwN] at de
      have de := rwN_inj de
      refine ⟨.ref t.1, H, I.kept hk, rx, q t tm fun u hu => ?_⟩
      rw [← de]
      refine minR_le _ _ _ ?_
      rw [hcs, ← List.map_cons (f := fun t : Addr × List Nat => t.2), ← e0]
      exact List.mem_map_of_mem hu
end
end GL

namespace K58
open PySem PySem.Spec PyProof.Rows
open L2 hiding spCell
open GL
theorem cut_both {xs : List V} {i j : Nat} (ij : i ≤ j) (h : j ≤ xs.length) : cutV xs (some ((i : Nat) : Int)) (some ((j : Nat) : Int)) = (xs.drop i).take (j - i) := by
  unfold cutV
  rw [HT.sIx_nat, HT.sIx_nat, show min i xs.length = i by omega, show min j xs.length = j by omega]
theorem cut_ring {pre : List Nat} {x y z w m : Nat} (e : pre.length + 4 = m) : cutV (natV (pre ++ [x, y, z, w])) (some (((m : Nat) : Int) - 4)) (some (((m : Nat) : Int) - 1)) = natV [x, y, z] := by
  rw [show ((m : Nat) : Int) - 4 = ((pre.length : Nat) : Int) by omega, show ((m : Nat) : Int) - 1 = ((pre.length + 3 : Nat) : Int) by omega, cut_both (by omega) (by rw [natV_len, List.length_append]; show pre.length + 3 ≤ pre.length + 4; omega), natV_drop, natV_take, List.drop_left, show pre.length + 3 - pre.length = 3 by omega]
  rfl
theorem cut_pre {pre : List Nat} {x y z w m : Nat} (e : pre.length + 4 = m) : cutV (natV (pre ++ [x, y, z, w])) none (some (((m : Nat) : Int) - 4)) = natV pre := by
  rw [show ((m : Nat) : Int) - 4 = ((pre.length : Nat) : Int) by omega, cut_upto, natV_take, List.take_left]
theorem nicR {n : Nat} {l0 : List Nat} (L : LotOf n l0) (hn : n ≤ 40) (h4 : l0.length ≤ 4) (k : Nat) : Nice (k + 1) (rowP (nums l0)) := by
  refine Nice.list (n := k) (by unfold nums; rw [List.length_map, List.length_map]; omega) fun x hx => ?_
  obtain ⟨y, hy, rfl⟩ := List.mem_map.mp hx
  obtain ⟨z, hz, rfl⟩ := nums_mem.mp hy
  have := L.low z hz
  exact Nice.leaf (by show ((z : Nat) : Int).natAbs < 2 ^ 100; omega)
theorem dtR {K : PySem.W.Frag} {H : Hp} {p : Addr} {l0 : List Nat} (h : H p = some (.lst (natV l0))) : Dt K H (.ref p) (rowP (nums l0)) := .lst (by rw [h, natV_nums]) (dts_ints _)
theorem st_by {P : L2.St → Hp → Prop} {σ σ' : L2.St} {H : Hp} (e : σ = σ') (h : P σ' H) : P σ H := by
  rw [e]
  exact h
def spGreatR : Sp := fun vs H Q _ => ∃ (g : Addr) (n : Nat), vs = [.ref g] ∧ GL.Gen H g (n + 1000) ∧ ∀ H', But g H H' → Q (.bl true) H'
section
variable {P : Program} {w : World} {K : PySem.W.Frag} {mg : Str → Option Value} {base : Heap}
abbrev sGreatR : Stmt := topS 47
abbrev nGreatR : List Str := ["_law_generator_here", "_law_size", "_law_order", "_law_low", "_law_high", "_law_ring", "_law_lone", "_law_above", "_law_beneath", "_law_first", "_law_last", "_law_bent", "_law_due", "_law_place"]
theorem scGreatR : FnScope nGreatR ["_law_generator_here"] (defScope sGreatR) := ⟨rfl, rfl, rfl, by decide +kernel, rfl, by decide +kernel, by decide +kernel⟩
theorem ok_greatR {f : Addr} {fd : FuncData} (F : Fun K "_law_great_right" "_law_great_right" sGreatR f fd) (T : Bi mg) (Uleaguecouples : Use P w K mg base "league_couples" ["league"] spLCpl 7) (Uarejoinedleagues : Use P w K mg base "are_joined_leagues" ["one", "other"] spJoinedL 8) (Upartingpeople : Use P w K mg base "parting_people" ["one", "other"] spPartP 8) (ULrandom : Use P w K mg base "_law_random" ["_law_generator_here", "_law_bound"] spRandom 2) (ULturned : Use P w K mg base "_law_turned" ["_law_rows", "_law_one", "_law_other"] spTurnW 1) (ULcouples : Use P w K mg base "_law_couples" ["_law_rows"] spCplW 3) (ULorders : Use P w K mg base "_law_orders" ["_law_generator_here", "_law_people"] spOrdW 3) (ULlaid : Use P w K mg base "_law_laid" ["_law_order"] spLaidS 2) : FnG P w K mg base CX0 9 f fd ["_law_generator_here"] spGreatR := by
  refine FnG.mk' F scGreatR (fun vs H Q E h => ?_) (fun cdv A outer s H vs Q E hgd hr h => ?_)
  · obtain ⟨g, n, rfl, _⟩ := h
    rfl
  · obtain ⟨g, n, rfl, G, q⟩ := h
    have hgd' : (A.deeper (envOfC "_law_great_right" (defScope sGreatR) s.heap.objs.size f cdv)).guards = some [] := hgd
    refine ⟨_, (pss_cons (ps_set (i := 1) scGreatR.nd rfl (Or.inl rfl) (pe_op op_add pe_int (pe_use ULrandom (hr.mono (by decide)) (by rfl) (pa_cons (pv 0) (pa_cons pe_int pa_nil)))))
      (pss_cons (ps_set (i := 2) scGreatR.nd rfl (Or.inr rfl) (pe_use ULorders (hr.mono (by decide)) (by rfl) (pa_cons (pv 0) (pa_cons (pe_listRg rfl (by rfl) T.list (prg_1 (by rfl) T.range (pv 1))) pa_nil))))
      (pss_cons (ps_par (i := 3) (j := 4) rfl scGreatR.nd rfl rfl (by decide) rfl rfl (pa_cons (pe_use ULlaid (hr.mono (by decide)) (by rfl) (pa_cons (pv 2) pa_nil)) (pa_cons (pe_use ULlaid (hr.mono (by decide)) (by rfl) (pa_cons (pe_use ULorders (hr.mono (by decide)) (by rfl) (pa_cons (pv 0) (pa_cons (pe_listRg rfl (by rfl) T.list (prg_1 (by rfl) T.range (pv 1))) pa_nil))) pa_nil)) pa_nil)) (by rfl))
      (pss_cons (ps_if (PW.pt (pw_or (pt_cmpR op_notBl (pe_use Uarejoinedleagues hr (by rfl) (pa_cons (pv 3) (pa_cons (pv 4) pa_nil))) pe_bl (nomark _)) (pw_or1 (pt_cmpR op_notN (pe_use Upartingpeople hr (by rfl) (pa_cons (pv 3) (pa_cons (pv 4) pa_nil))) pe_non (nomark _)))))
        (pss_one (ps_ret pe_bl)) pss_nil)
      (pss_cons (ps_par (i := 5) (j := 6) rfl scGreatR.nd rfl rfl (by decide) rfl rfl (pa_cons (pe_slice sl_list (pv 2) (po_some (pe_op op_sub (pv 1) pe_int)) (po_some (pe_op op_sub (pv 1) pe_int))) (pa_cons (pe_ix ix_list (pv 2) (pe_op op_sub (pv 1) pe_int) (fun _ _ => rfl)) pa_nil)) (by rfl))
      (pss_cons (ps_par (i := 7) (j := 8) rfl scGreatR.nd rfl rfl (by decide) rfl rfl (pa_cons (pe_use ULlaid (hr.mono (by decide)) (by rfl) (pa_cons (pv 2) pa_nil)) (pa_cons (pe_use ULlaid (hr.mono (by decide)) (by rfl) (pa_cons (pe_op op_cat (pe_op op_cat (pe_slice sl_list (pv 2) po_none (po_some (pe_op op_sub (pv 1) pe_int))) (pe_lst (pa_cons (pv 6) pa_nil))) (pv 5)) pa_nil)) pa_nil)) (by rfl))
      (pss_cons (ps_par (i := 7) (j := 8) rfl scGreatR.nd rfl rfl (by decide) rfl rfl (pa_cons (pe_use ULturned (hr.mono (by decide)) (by rfl) (pa_cons (pv 7) (pa_cons (pe_ix ix_list (pv 5) pe_int (fun _ _ => rfl)) (pa_cons (pe_ix ix_list (pv 5) pe_int (fun _ _ => rfl)) pa_nil)))) (pa_cons (pe_use ULturned (hr.mono (by decide)) (by rfl) (pa_cons (pv 8) (pa_cons (pe_ix ix_list (pv 5) pe_int (fun _ _ => rfl)) (pa_cons (pe_ix ix_list (pv 5) pe_int (fun _ _ => rfl)) pa_nil)))) pa_nil)) (by rfl))
      (pss_cons (ps_if (PW.pt (pw_or (pt_cmpR op_notBl (pe_use Uarejoinedleagues hr (by rfl) (pa_cons (pv 7) (pa_cons (pv 8) pa_nil))) pe_bl (nomark _)) (pw_or1 (pt_cmpR op_ne (pe_callB (call_repD hgd' hr.units) (by rfl) T.repr (by decide +kernel) (pa_cons (pe_use Upartingpeople hr (by rfl) (pa_cons (pv 7) (pa_cons (pv 8) pa_nil))) pa_nil)) (pe_callB (call_repD hgd' hr.units) (by rfl) T.repr (by decide +kernel) (pa_cons (pe_callB cr_sortedI (by rfl) T.sorted (by decide +kernel) (pa_cons (pe_op op_cat (pv 5) (pe_lst (pa_cons (pv 6) pa_nil))) pa_nil)) pa_nil)) (nomark _)))))
        (pss_one (ps_ret pe_bl)) pss_nil)
      (pss_cons (ps_set (i := 9) scGreatR.nd rfl (Or.inr rfl) (pe_use ULrandom (hr.mono (by decide)) (by rfl) (pa_cons (pv 0) (pa_cons (pe_op op_sub (pv 1) pe_int) pa_nil))))
      (pss_cons (ps_set (i := 10) scGreatR.nd rfl (Or.inr rfl) (pe_op op_add (pe_op op_add (pv 9) pe_int) (pe_use ULrandom (hr.mono (by decide)) (by rfl) (pa_cons (pv 0) (pa_cons (pe_op op_sub (pe_op op_sub (pv 1) (pv 9)) pe_int) pa_nil)))))
      (pss_cons (ps_set (i := 11) scGreatR.nd rfl (Or.inl rfl) (pe_use ULturned (hr.mono (by decide)) (by rfl) (pa_cons (pv 3) (pa_cons (pe_ix ix_list (pv 2) (pv 9) (fun _ _ => rfl)) (pa_cons (pe_ix ix_list (pv 2) (pv 10) (fun _ _ => rfl)) pa_nil)))))
      (pss_cons (ps_set (i := 12) scGreatR.nd rfl (Or.inl rfl) (pe_callB (cr_minR rfl hr.units) (by rfl) T.min (by decide +kernel) (pa_cons (pe_lc (own := [("_law_place", 13)]) (g := (gName 13)) (tt := tYes) (te := (tCB (rSortedI K) (tCons (tLst (tCons (tOp (rIxL K) (tVar 2) (tVar 9)) (tCons (tOp (rIxL K) (tVar 2) (tVar 13)) (tCons (tOp (rIxL K) (tVar 2) (tVar 10)) tNil)))) tNil))) rfl scGreatR.nd (pi_range2 (by rfl) T.range (pa_cons (pe_op op_add (pv 9) pe_int) (pa_cons (pv 10) pa_nil)))
            (blkOk_by (N := nGreatR) (sc := (defScope sGreatR)) (by decide +kernel)) (fun _ _ _ _ _ => (pg_name (i := 13) scGreatR.nd rfl (Or.inl rfl))) (fun _ _ _ _ _ => by exact pts_nil)
            (fun _ _ _ _ _ => by exact (pe_callB cr_sortedI (by rfl) T.sorted (by decide +kernel) (pa_cons (pe_lst (pa_cons (pe_ix ix_list (pv 2) (pv 9) (fun _ _ => rfl)) (pa_cons (pe_ix ix_list (pv 2) (pv 13) (fun _ _ => rfl)) (pa_cons (pe_ix ix_list (pv 2) (pv 10) (fun _ _ => rfl)) pa_nil)))) pa_nil)))) pa_nil)))
      (pss_cons (ps_if (PW.pt (pw_or (pt_cmpR op_notBl (pe_use Uarejoinedleagues hr (by rfl) (pa_cons (pv 3) (pa_cons (pv 11) pa_nil))) pe_bl (nomark _)) (pw_or1 (pt_cmpR op_notBl (pe_use Uarejoinedleagues hr (by rfl) (pa_cons (pv 11) (pa_cons (pv 4) pa_nil))) pe_bl (nomark _)))))
        (pss_one (ps_ret pe_bl)) pss_nil)
      (pss_one (ps_ret (pe_and (pe_cmpR op_eq (pe_callB (call_repD hgd' hr.units) (by rfl) T.repr (by decide +kernel) (pa_cons (pe_lst (pa_cons (pe_use Upartingpeople hr (by rfl) (pa_cons (pv 3) (pa_cons (pv 11) pa_nil))) (pa_cons (pe_use Upartingpeople hr (by rfl) (pa_cons (pv 11) (pa_cons (pv 4) pa_nil))) pa_nil))) pa_nil)) (pe_callB (call_repD hgd' hr.units) (by rfl) T.repr (by decide +kernel) (pa_cons (pe_lst (pa_cons (pv 12) (pa_cons (pv 12) pa_nil))) pa_nil)) (nomark _)) (pe_one (pe_cmpR (op_eqD hr.units) (pe_use Uleaguecouples (hr.mono (by decide)) (by rfl) (pa_cons (pv 11) pa_nil)) (pe_use ULcouples (hr.mono (by decide)) (by rfl) (pa_cons (pv 11) pa_nil)) (nomark _))))))))))))))))))), ?_⟩
    refine ⟨_, rfl, g, 7, n + 995, rfl, by decide, by decide, G, fun r H1 r0 r1 G1 b1 => ⟨_, _, rfl, rfl, ?_⟩⟩
    obtain ⟨m, em⟩ : ∃ m : Nat, (8 : Int) + r = ((m : Nat) : Int) := ⟨(8 + r).toNat, by omega⟩
    refine gName_by ?_
    dsimp only
    rw [em]
    have m8 : 8 ≤ m := by omega
    have m14 : m ≤ 14 := by omega
    have lrm : (List.range m).length = m := List.length_range
    clear em r0 r1
    refine ⟨_, rfl, _, rfl, _, rfl, ?_⟩
    refine ⟨RgOk.of_le (by omega) (by omega) (by omega) (by omega), fun N hN => ?_⟩
    rw [rg_nat]
    obtain ⟨H2, e2, s2, f2⟩ := gen H1 hN (.lst (natV (List.range m)))
    rw [e2]
    clear e2
    refine ⟨g, N, List.range m, n + 925, rfl, f2, by omega, (G1.same s2).less (by omega), fun O H3 os b3 nO G3 hO pm => ?_⟩
    refine gName_by ?_
    refine ⟨_, rfl, m, O, os, rfl, by omega, hO, pm, fun pl psl H4 s4 npl npsl tl => ?_⟩
    refine ⟨_, rfl, _, rfl, _, rfl, RgOk.of_le (by omega) (by omega) (by omega) (by omega), fun N2 hN2 => ?_⟩
    rw [rg_nat]
    obtain ⟨H5, e5, s5, f5⟩ := gen H4 hN2 (.lst (natV (List.range m)))
    rw [e5]
    clear e5
    have G5 := (G3.same s4).same s5
    refine ⟨g, N2, List.range m, n + 855, rfl, f5, by omega, G5.less (by omega), fun O2 H6 os2 b6 nO2 G6 hO2 pm2 => ?_⟩
    refine ⟨m, O2, os2, rfl, by omega, hO2, pm2, fun ph psh H7 s7 nph npsh th => ⟨_, _, rfl, ?_⟩⟩
    have Og : O ≠ g := ((G1.same s2).ne nO).symm
    have plg : pl ≠ g := (G3.ne npl).symm
    have gpl : g ∉ psl := notin_new G3 npsl
    have phg : ph ≠ g := (G6.ne nph).symm
    have gph : g ∉ psh := notin_new G6 npsh
    have tl7 := ((tl.same s5).but b6 plg gpl).same s7
    have hO7 := s7 _ _ (b6 _ _ (s5 _ _ (s4 _ _ hO)) Og)
    have G7 := G6.same s7
    have b07 : But g H H7 := b1.trans ((But.of s2).trans (b3.trans ((But.of (s4.trans s5)).trans (b6.trans (.of s7)))))
    have fl := laid_fine m os
    have fh := laid_fine m os2
    have ll := laid_len m os
    have lh := laid_len m os2
    have J := laid_perm pm pm2
    refine ⟨_, rfl, _, rfl, pl, ph, psl, psh, _, _, rfl, tl7, th, fl, fh, by omega, by omega, by omega, fun v H8 s8 hv => ?_⟩
    have ev := hv.mpr J
    subst ev
    refine ⟨true, true, rfl, rfl, _, rfl, iteF ?_⟩
    refine ⟨_, rfl, _, rfl, pl, ph, psl, psh, _, _, rfl, tl7.same s8, th.same s8, fl, fh, by omega, by omega, by omega, fun _ H9 s9 => ?_, fun p l' H9 s9 _ _ _ no => absurd J no⟩
    refine ⟨rfl, _, rfl, iteF ?_⟩
    have s79 := s8.trans s9
    -- the ring and the last one
    obtain ⟨pre, x, y, z, w, eos, lpre⟩ : ∃ pre x y z w, os = pre ++ [x, y, z, w] ∧ pre.length + 4 = m := by
      have los : os.length = m := by rw [pm.length_eq, lrm]
      have h4 : (os.drop (m - 4)).length = 4 := by rw [List.length_drop]; omega
      match hd : os.drop (m - 4), h4 with
      | [x, y, z, w], _ => exact ⟨os.take (m - 4), x, y, z, w, by rw [← hd, List.take_append_drop], by rw [List.length_take]; omega⟩
    subst eos
    have F : Fours m pre x y z w := ⟨pm⟩
    have hO9 := s79 _ _ hO7
    refine ⟨_, rfl, _, rfl, _, _, rfl, rfl, _, rfl, _, rfl, _, _, rfl, rfl, _, rfl, O, _, rfl, SqL.of hO9, fun Rg hRg => ?_⟩
    rw [cut_ring lpre]
    obtain ⟨H10, e10, s10, f10⟩ := gen H9 hRg (.lst (natV [x, y, z]))
    rw [e10]
    clear e10
    have atw : (natV (pre ++ [x, y, z, w]))[pre.length + 3]? = some (V.int ((w : Nat) : Int)) := by
      unfold natV
      rw [List.getElem?_map, List.getElem?_append_right (by omega), show pre.length + 3 - pre.length = 3 by omega]
      rfl
    refine ⟨_, rfl, _, rfl, _, _, rfl, rfl, O, _, _, _, rfl, rfl, SqL.of (s10 _ _ hO9), by rw [show ((m : Nat) : Int) - 1 = ((pre.length + 3 : Nat) : Int) by omega]; exact atI_nat atw, ⟨_, _, rfl, ?_⟩⟩
    have hO10 := s10 _ _ hO9
    refine ⟨_, rfl, m, O, _, rfl, by omega, hO10, pm, fun pa psa H11 s11 npa npsa ta => ?_⟩
    have hO11 := s11 _ _ hO10
    have hR11 := s11 _ _ f10
    refine ⟨_, rfl, _, rfl, _, _, rfl, rfl, _, rfl, O, _, rfl, SqL.of hO11, fun p1 hp1 => ?_⟩
    rw [cut_pre lpre]
    obtain ⟨H12, e12, s12, f12⟩ := gen H11 hp1 (.lst (natV pre))
    rw [e12]
    clear e12
    refine ⟨_, rfl, one_le, fun p2 hp2 => ?_⟩
    obtain ⟨H13, e13, s13, f13⟩ := gen H12 hp2 (.lst (natV [w]))
    rw [show upd H12 p2 (.lst [V.int ((w : Nat) : Int)]) = H13 from e13]
    clear e13
    have napp : ∀ u v : List Nat, natV u ++ natV v = natV (u ++ v) := fun u v => by
      unfold natV
      rw [List.map_append]
    have sz : ∀ k, k ≤ 900 → k ≤ sizeLine := fun k h => by rw [sizeLine_eq]; omega
    refine ⟨p1, p2, _, _, rfl, rfl, s13 _ _ f12, f13, (by rw [natV_len, natV_len]; exact sz _ (by show pre.length + 1 ≤ 900; omega)), fun p3 hp3 => ?_⟩
    rw [napp]
    obtain ⟨H14, e14, s14, f14⟩ := gen H13 hp3 (.lst (natV (pre ++ [w])))
    rw [e14]
    clear e14
    have hR14 := (s12.trans (s13.trans s14)) _ _ hR11
    refine ⟨_, rfl, p3, Rg, _, _, rfl, rfl, f14, hR14, (by rw [natV_len, natV_len, List.length_append]; exact sz _ (by show pre.length + 1 + 3 ≤ 900; omega)), fun p4 hp4 => ?_⟩
    rw [napp, show (pre ++ [w]) ++ [x, y, z] = pre ++ [w, x, y, z] by rw [List.append_assoc]; rfl]
    obtain ⟨H15, e15, s15, f15⟩ := gen H14 hp4 (.lst (natV (pre ++ [w, x, y, z])))
    rw [e15]
    clear e15
    refine ⟨m, p4, _, rfl, by omega, f15, F.pm2, fun pb psb H16 s16 npb npsb tb => ⟨_, _, rfl, ?_⟩⟩
    have s11_16 := s12.trans (s13.trans (s14.trans (s15.trans s16)))
    have ta := ta.same s11_16
    have hR16 := s11_16 _ _ hR11
    obtain ⟨n1, n2, n3, n4, n5, n6⟩ := F.ne
    have lx := F.low (p := x) (by simp)
    have lz := F.low (p := z) (by simp)
    have lw := F.low (p := w) (by simp)
    have fb := laid_fine m (pre ++ [w, x, y, z])
    have lb := laid_len m (pre ++ [w, x, y, z])
    refine ⟨_, rfl, _, rfl, Rg, _, _, _, rfl, rfl, SqL.of hR16, atI_nat (j := 0) rfl, _, rfl, Rg, _, _, _, rfl, rfl, SqL.of hR16, atI_nat (j := 2) rfl, pa, psa, _, x, z, rfl, ta, fl, by omega, by omega, by omega, n2, fun qa qsa H17 s17 nqa nqsa _ tqa => ?_⟩
    have hR17 := s17 _ _ hR16
    refine ⟨_, rfl, _, rfl, Rg, _, _, _, rfl, rfl, SqL.of hR17, atI_nat (j := 0) rfl, _, rfl, Rg, _, _, _, rfl, rfl, SqL.of hR17, atI_nat (j := 2) rfl, pb, psb, _, x, z, rfl, tb.same s17, fb, by omega, by omega, by omega, n2, fun qb qsb H18 s18 nqb nqsb _ tqb => ⟨_, _, rfl, ?_⟩⟩
    have tA : Tab H18 qa qsa (aboK m pre x y z w) := tqa.same s18
    have tB : Tab H18 qb qsb (benK m pre x y z w) := tqb
    have lA : (aboK m pre x y z w).length = m := ring_len
    have lB : (benK m pre x y z w).length = m := ring_len
    have part := F.part
    have noJ := part_no F.fine1 F.fine2 (by omega) part
    refine ⟨_, rfl, _, rfl, qa, qb, qsa, qsb, _, _, rfl, tA, tB, F.fine1, F.fine2, by omega, by omega, by omega, fun v H19 s19 hv => ?_⟩
    have ev : v = false := Bool.eq_false_iff.mpr fun e => noJ (hv.mp e)
    subst ev
    refine ⟨false, false, rfl, rfl, _, rfl, iteF ?_⟩
    refine ⟨_, rfl, _, rfl, qa, qb, qsa, qsb, _, _, rfl, tA.same s19, tB.same s19, F.fine1, F.fine2, by omega, by omega, by omega, fun z => absurd z noJ, fun p5 l5 H20 s20 np5 hp5 pl5 _ => ?_⟩
    have e5 := part_one (show Part _ _ l5 from pl5) part
    subst e5
    obtain ⟨LF, lenF⟩ := F.lot
    have lowF : ∀ p ∈ [x, y, z, w], p < m := fun p hp => F.low hp
    have ndF := (List.nodup_append.mp F.nd).2.1
    have fd := (nicR LF (by omega) (by omega) 2).fits
    have hR20 := (s17.trans (s18.trans (s19.trans s20))) _ _ hR16
    refine ⟨.ref p5, _, rfl, dtR hp5, fd.1, fd.2.1, fd.2.2, ?_⟩
    refine ⟨_, rfl, _, rfl, one_le, fun p6 hp6 => ?_⟩
    obtain ⟨H21, e21, s21, f21⟩ := gen H20 hp6 (.lst (natV [w]))
    rw [show upd H20 p6 (.lst [V.int ((w : Nat) : Int)]) = H21 from e21]
    clear e21
    refine ⟨Rg, p6, _, _, rfl, rfl, s21 _ _ hR20, f21, (by rw [natV_len, natV_len]; exact sz _ (by show 3 + 1 ≤ 900; decide)), fun p7 hp7 => ?_⟩
    rw [napp, show [x, y, z] ++ [w] = [x, y, z, w] from rfl]
    obtain ⟨H22, e22, s22, f22⟩ := gen H21 hp7 (.lst (natV [x, y, z, w]))
    rw [e22]
    clear e22
    refine ⟨p7, nums [x, y, z, w], rfl, SqL.of (by rw [f22, natV_nums]), fun ns p8 pms so hp8 => ?_⟩
    rw [srt_get lowF ndF pms so, ← natV_nums]
    obtain ⟨H23, e23, s23, f23⟩ := gen H22 hp8 (.lst (natV (srtN m [x, y, z, w])))
    rw [e23]
    clear e23
    refine ⟨.ref p8, _, rfl, dtR f23, fd.1, fd.2.1, fd.2.2, rfl, _, rfl, ?_⟩
    rw [decide_eq_true rfl]
    refine iteF ?_
    -- from H7 to H23 nothing was drawn
    have s9_16 : Same H9 H16 := s10.trans (s11.trans s11_16)
    have s16_23 : Same H16 H23 := s17.trans (s18.trans (s19.trans (s20.trans (s21.trans (s22.trans s23)))))
    have s7_23 : Same H7 H23 := s79.trans (s9_16.trans s16_23)
    have hO23 := s7_23 _ _ hO7
    have tl23 := tl7.same s7_23
    have th23 := th.same s7_23
    have G23 := G7.same s7_23
    have b23 : But g H H23 := b07.trans (.of s7_23)
    clear s20 s21 s22 s23 s17 s18 s19 s10 s11 s12 s13 s14 s15 s16
    refine ⟨_, rfl, _, rfl, _, _, rfl, rfl, g, ((m : Nat) : Int) - 2, n + 850, rfl, by omega, by omega, G23.less (by omega), fun r2 H24 r20 r21 G24 b24 => ?_⟩
    obtain ⟨fi, rfl⟩ : ∃ k : Nat, r2 = (k : Int) := ⟨r2.toNat, by omega⟩
    refine gName_by ?_
    refine ⟨_, rfl, _, _, rfl, rfl, _, rfl, _, rfl, _, rfl, _, _, rfl, rfl, _, _, rfl, rfl, g, ((m : Nat) : Int) - ((fi : Nat) : Int) - 2, n + 845, rfl, by omega, by omega, G24, fun r3 H25 r30 r31 G25 b25 => ⟨_, _, rfl, rfl, ?_⟩⟩
    obtain ⟨la, ela⟩ : ∃ k : Nat, ((fi : Nat) : Int) + 2 + r3 = ((k : Nat) : Int) := ⟨(((fi : Nat) : Int) + 2 + r3).toNat, by omega⟩
    refine gName_by ?_
    dsimp only
    rw [ela]
    have f2l : fi + 2 ≤ la := by omega
    have lam : la < m := by omega
    clear ela r20 r21 r30 r31
    obtain ⟨os, eos⟩ : ∃ os, os = pre ++ [x, y, z, w] := ⟨_, rfl⟩
    rw [← eos] at pm fl ll tl23 hO23 J
    have los : os.length = m := by rw [pm.length_eq, lrm]
    have nd : os.Nodup := pm.nodup_iff.mpr List.nodup_range
    have at_ : ∀ {k : Nat}, k < m → os[k]? = some (lotW os k) := fun {k} h => lotW_at (by omega)
    have lowO : ∀ {k : Nat}, k < m → lotW os k < m := fun {k} h => List.mem_range.mp (pm.mem_iff.mp (List.mem_of_getElem? (at_ h)))
    have idx : ∀ {k : Nat}, k < m → os.idxOf (lotW os k) = k := fun {k} h => idxR_at nd (at_ h)
    have atV : ∀ {k : Nat}, k < m → (natV os)[k]? = some (V.int ((lotW os k : Nat) : Int)) := fun {k} h => by
      unfold natV
      rw [List.getElem?_map, at_ h]
      rfl
    have b2325 : But g H23 H25 := b24.trans b25
    have hO25 := b2325 _ _ hO23 Og
    have tl25 := tl23.but b2325 plg gpl
    have th25 := th23.but b2325 phg gph
    obtain ⟨a, ea⟩ : ∃ a, a = lotW os fi := ⟨_, rfl⟩
    obtain ⟨b, eb⟩ : ∃ b, b = lotW os la := ⟨_, rfl⟩
    have ha : a < m := by rw [ea]; exact lowO (by omega)
    have hb : b < m := by rw [eb]; exact lowO lam
    have ia : os.idxOf a = fi := by rw [ea]; exact idx (by omega)
    have ib : os.idxOf b = la := by rw [eb]; exact idx lam
    have ab : a ≠ b := fun e => by
      rw [e, ib] at ia
      omega
    have va := atV (k := fi) (by omega)
    have vb := atV lam
    rw [← ea] at va
    rw [← eb] at vb
    refine ⟨_, rfl, _, rfl, _, rfl, O, _, _, _, rfl, rfl, SqL.of hO25, atI_nat (j := fi) va, _, rfl, _, rfl, O, _, _, _, rfl, rfl, SqL.of hO25, atI_nat (j := la) vb, pl, psl, _, a, b, rfl, tl25, fl, by omega, by omega, by omega, ab, fun pt pst H26 s26 npt npst _ tt => ?_⟩
    refine gName_by ?_
    dsimp only
    refine st_by (σ' := [some (.ref g), some (.int ((m : Nat) : Int)), some (.ref O), some (.ref pl), some (.ref ph), some (.ref Rg), some (.int ((w : Nat) : Int)), some (.ref qa), some (.ref qb), some (.int ((fi : Nat) : Int)), some (.int ((la : Nat) : Int)), some (.ref pt), none, none]) rfl ?_
    have tT : Tab H26 pt pst (ringK m os a b) := tt
    have fT : Fine 2 (ringK m os a b) := ring_fine ab ha hb
    have lT : (ringK m os a b).length = m := ring_len
    have hO26 := s26 _ _ hO25
    have tl26 := tl25.same s26
    have th26 := th25.same s26
    refine ⟨_, rfl, _, _, rfl, rfl, _, rfl, _, _, rfl, ⟨by omega, by omega, by omega, by omega⟩, fun D hD => ?_⟩
    have kn : (((la : Nat) : Int) - (((fi : Nat) : Int) + 1)).toNat = la - (fi + 1) := by omega
    have e1 : ((fi : Nat) : Int) + 1 = ((fi + 1 : Nat) : Int) := by omega
    rw [kn, e1]
    have low3 : ∀ {k : Nat}, k < m → ∀ p ∈ [a, lotW os k, b], p < m := fun hk p hp => by
      simp only [List.mem_cons, List.not_mem_nil, or_false] at hp
      rcases hp with rfl | rfl | rfl
      · exact ha
      · exact lowO hk
      · exact hb
    have nd3 : ∀ {k : Nat}, fi < k → k < la → [a, lotW os k, b].Nodup := fun {k} h1 h2 => by
      have i3 := idx (k := k) (by omega)
      have q1 : a ≠ lotW os k := fun e => by rw [← e, ia] at i3; omega
      have q2 : lotW os k ≠ b := fun e => by rw [e, ib] at i3; omega
      simp [q1, q2, ab]
    refine lc_objs (walk_from (a := fi + 1) (n := la - (fi + 1))) (fun i => .lst (natV (srtN m [a, lotW os (fi + 1 + i), b]))) hD (sz _ (by omega)) (fun _ _ => trivial) ?_ ?_
    · rintro i v H27 H28 N3 hi s27 ⟨rfl, rfl⟩ hN3
      have kl : fi + 1 + i < la := by omega
      have hO28 := s27 _ _ hO26
      refine ⟨rfl, ?_⟩
      refine ⟨_, rfl, _, rfl, O, _, _, _, rfl, rfl, SqL.of hO28, atI_nat (j := fi) va, _, rfl, _, rfl, O, _, _, _, rfl, rfl, SqL.of hO28, atI_nat (j := fi + 1 + i) (atV (by omega)), _, rfl, _, rfl, O, _, _, _, rfl, rfl, SqL.of hO28, atI_nat (j := la) vb, (by show 3 ≤ sizeLine; decide), fun q3 hq3 => ?_⟩
      obtain ⟨H29, e29, s29, f29⟩ := gen H28 hq3 (.lst (natV [a, lotW os (fi + 1 + i), b]))
      rw [show upd H28 q3 (.lst [V.int ((a : Nat) : Int), V.int ((lotW os (fi + 1 + i) : Nat) : Int), V.int ((b : Nat) : Int)]) = H29 from e29]
      clear e29
      refine ⟨q3, nums [a, lotW os (fi + 1 + i), b], rfl, SqL.of (by rw [f29, natV_nums]), fun ns q4 pms so hq4 => ?_⟩
      rw [srt_get (low3 (by omega)) (nd3 (by omega) kl) pms so, ← natV_nums]
      exact hN3 _ q4 (s29.trans (same_new hq4)) (s29.free hq4) upd_same
    intro H27 rs27 s27 ob
    obtain ⟨ts, ets⟩ : ∃ ts : List (Addr × List Nat), ts = rs27.zip ((List.range (la - (fi + 1))).map fun i => srtN m [a, lotW os (fi + 1 + i), b]) := ⟨_, rfl⟩
    have lz2 : ((List.range (la - (fi + 1))).map fun i => srtN m [a, lotW os (fi + 1 + i), b]).length = la - (fi + 1) := by rw [List.length_map, List.length_range]
    have tmap : ts.map (fun t => V.ref t.1) = rs27.map V.ref := by
      rw [ets, show (fun t : Addr × List Nat => V.ref t.1) = V.ref ∘ Prod.fst from rfl, ← List.map_map, List.map_fst_zip (by rw [lz2, ob.len]; exact Nat.le_refl _)]
    have tat : ∀ t ∈ ts, ∃ i, i < la - (fi + 1) ∧ rs27[i]? = some t.1 ∧ t.2 = srtN m [a, lotW os (fi + 1 + i), b] := fun t ht => by
      rw [ets] at ht
      obtain ⟨i, hi⟩ := List.mem_iff_getElem?.mp ht
      rw [List.getElem?_zip_eq_some] at hi
      have il : i < la - (fi + 1) := by
        rw [← lz2]
        exact (List.getElem?_eq_some_iff.mp hi.2).1
      refine ⟨i, il, hi.1, ?_⟩
      have h2 := hi.2
      rw [List.getElem?_map, List.getElem?_range il] at h2
      exact (Option.some.inj h2).symm
    have thas : ∀ i, i < la - (fi + 1) → ∃ t ∈ ts, t.2 = srtN m [a, lotW os (fi + 1 + i), b] := fun i hi => by
      refine ⟨(rs27[i]'(by rw [ob.len]; exact hi), srtN m [a, lotW os (fi + 1 + i), b]), ?_, rfl⟩
      rw [ets]
      refine List.mem_iff_getElem?.mpr ⟨i, ?_⟩
      rw [List.getElem?_zip_eq_some]
      refine ⟨List.getElem?_eq_getElem _, ?_⟩
      rw [List.getElem?_map, List.getElem?_range hi]
      rfl
    refine ⟨D, ts, rfl, by rw [tmap]; exact ob.top, fun t ht => ?_, fun e => ?_, fun t ht least => ?_⟩
    · obtain ⟨i, _, h1, h2⟩ := tat t ht
      rw [h2]
      exact ob.row i t.1 h1
    · obtain ⟨t, ht, _⟩ := thas 0 (by omega)
      rw [e] at ht
      cases ht
    refine gName_by ?_
    obtain ⟨i0, il0, h1, h2⟩ := tat t ht
    have dueRow : H27 t.1 = some (.lst (natV t.2)) := by
      rw [h2]
      exact ob.row i0 t.1 h1
    have ic := idx (k := fi + 1 + i0) (by omega)
    have pB : PartAt (laidK m os) (ringK m os a b) 3 t.2 := by
      rw [h2]
      refine bent_part pm ha hb (lowO (by omega)) (by omega) (by omega) fun d dm d1 d2 => ?_
      have edx : d = lotW os (os.idxOf d) := by
        have md : d ∈ os := pm.mem_iff.mpr (List.mem_range.mpr dm)
        have := lotW_at (List.idxOf_lt_length_of_mem md)
        rw [List.getElem?_eq_getElem (List.idxOf_lt_length_of_mem md), List.getElem_idxOf] at this
        exact Option.some.inj this
      obtain ⟨u, hu, eu⟩ := thas (os.idxOf d - (fi + 1)) (by omega)
      have := least u hu
      rw [eu, h2, show fi + 1 + (os.idxOf d - (fi + 1)) = os.idxOf d by omega, ← edx] at this
      exact this
    have partB : Part (laidK m os) (ringK m os a b) t.2 := .inl pB
    have partH : Part (ringK m os a b) (laidK m os2) t.2 := .inl (partAt_swap fl fh fT (by omega) J pB)
    have noB := part_no fl fT (by omega) partB
    have noH := part_no fT fh (by omega) partH
    obtain ⟨LT, lenT⟩ := part_low partB
    rw [ll] at LT
    have tl27 := tl26.same s27
    have th27 := th26.same s27
    have tT27 := tT.same s27
    refine ⟨_, rfl, _, rfl, pl, pt, psl, pst, _, _, rfl, tl27, tT27, fl, fT, by omega, by omega, by omega, fun v H28 s28 hv => ?_⟩
    have ev : v = false := Bool.eq_false_iff.mpr fun e => noB (hv.mp e)
    subst ev
    refine ⟨false, false, rfl, rfl, _, rfl, iteF ?_⟩
    refine ⟨_, rfl, _, rfl, pt, ph, pst, psh, _, _, rfl, tT27.same s28, th27.same s28, fT, fh, by omega, by omega, by omega, fun v H29 s29 hv => ?_⟩
    have ev : v = false := Bool.eq_false_iff.mpr fun e => noH (hv.mp e)
    subst ev
    refine ⟨false, false, rfl, rfl, _, rfl, iteF ?_⟩
    have s2729 := s28.trans s29
    refine ⟨_, rfl, _, rfl, pl, pt, psl, pst, _, _, rfl, tl27.same s2729, tT27.same s2729, fl, fT, by omega, by omega, by omega, fun z => absurd z noB, fun p9 l9 H30 s30 np9 hp9 pl9 _ => ?_⟩
    have e9 := part_one (show Part _ _ l9 from pl9) partB
    have tT30 := tT27.same (s2729.trans s30)
    refine ⟨_, rfl, _, rfl, pt, ph, pst, psh, _, _, rfl, tT30, th27.same (s2729.trans s30), fT, fh, by omega, by omega, by omega, fun z => absurd z noH, fun p10 l10 H31 s31 np10 hp10 pl10 _ => ?_⟩
    have e10 := part_one (show Part _ _ l10 from pl10) partH
    rw [e9] at hp9
    rw [e10] at hp10
    have fd2 : Nice 3 (.list [rowP (nums t.2), rowP (nums t.2)]) := Nice.list (n := 2) (by show 2 ≤ 50; decide) fun e he => by
      simp only [List.mem_cons, List.not_mem_nil, or_false] at he
      rcases he with rfl | rfl <;> exact nicR LT (by omega) lenT 1
    have fd2 := fd2.fits
    refine ⟨(by show 2 ≤ sizeLine; decide), fun L1 hL1 => ?_⟩
    obtain ⟨H32, e32, s32, f32⟩ := gen H31 hL1 (.lst [.ref p9, .ref p10])
    rw [e32]
    clear e32
    have dL1 : Dt K H32 (.ref L1) (.list [rowP (nums t.2), rowP (nums t.2)]) := .lst f32 (.cons ((dtR hp9).same (s31.trans s32)) (.cons ((dtR hp10).same s32) .nil))
    refine ⟨.ref L1, _, rfl, dL1, fd2.1, fd2.2.1, fd2.2.2, _, rfl, _, rfl, (by show 2 ≤ sizeLine; decide), fun L2 hL2 => ?_⟩
    obtain ⟨H33, e33, s33, f33⟩ := gen H32 hL2 (.lst [.ref t.1, .ref t.1])
    rw [e33]
    clear e33
    have s2733 := s2729.trans (s30.trans (s31.trans (s32.trans s33)))
    have dd33 : Dt K H33 (.ref t.1) (rowP (nums t.2)) := (dtR dueRow).same s2733
    have dL2 : Dt K H33 (.ref L2) (.list [rowP (nums t.2), rowP (nums t.2)]) := .lst f33 (.cons dd33 (.cons dd33 .nil))
    refine ⟨.ref L2, _, rfl, dL2, fd2.1, fd2.2.1, fd2.2.2, rfl, _, rfl, ?_⟩
    rw [decide_eq_true rfl, if_pos rfl]
    refine ⟨_, rfl, pt, pst, _, rfl, tT27.same s2733, fT, by omega, by omega, fun c1 ts1 H34 s34 nc1 C1 ec1 => ?_⟩
    refine ⟨_, rfl, pt, pst, _, rfl, tT27.same (s2733.trans s34), fT, by omega, fun c2 ts2 H35 s35 nc2 C2 ec2 => ?_⟩
    refine ⟨_, _, (C1.same s35).dp, C2.dp, shaped_cpl _, shaped_cpl _, ?_⟩
    rw [eqv_cpl, ec1, ec2, decide_eq_true rfl]
    exact q _ (b23.trans (b2325.trans (.of (s26.trans (s27.trans (s2733.trans (s34.trans s35)))))))
end
end K58

namespace K58
open PySem PySem.Spec PyProof.Rows
open L2 hiding spCell
open GL
def rowU3 : List (List Int) := [[], [0], [0, 0]]
def ringU3 : List (List Int) := [[], [0], [1, 0]]
theorem jk_no3 : ¬ JK rowU3 ringU3 := fun h => by
  have f : Fine 2 rowU3 := fine_of (by decide +kernel)
  have no : ∀ a b, a < b → b < ringU3.length → alikeL ringU3 a b = false := fun a b ab hb => by
    have hb : b < 3 := hb
    have : ∀ b < 3, ∀ a < b, alikeL ringU3 a b = false := by decide +kernel
    exact this b hb a ab
  have := jk_rigid no (h.symm f)
  exact absurd this (by decide)
theorem part3 {l : List Nat} (h : Part rowU3 ringU3 l) : l = [0, 1, 2] := by
  rcases h with ⟨i, e, _⟩ | ⟨_, i, e, _⟩
  · have := List.mem_of_getElem? e
    rw [show Cmb.choices rowU3.length 3 = [[0, 1, 2]] by decide +kernel] at this
    exact List.mem_singleton.mp this
  · have := List.mem_of_getElem? e
    rw [show Cmb.choices rowU3.length 4 = [] by decide +kernel] at this
    cases this
theorem jk2 : JK [[], [0]] [[], [1]] := by
  have := laid_perm (m := 2) (os := [0, 1]) (os' := [1, 0]) (by decide) (by decide)
  rw [show laidK 2 [0, 1] = [[], [0]] by decide +kernel, show laidK 2 [1, 0] = [[], [1]] by decide +kernel] at this
  exact this
section
variable {P : Program} {w : World} {K : PySem.W.Frag} {mg : Str → Option Value} {base : Heap}
abbrev sLaw : Stmt := topS 48
abbrev nLaw : List Str := ["_law_script", "_law_index", "_law_generator_here", "_law_rows", "_law_at", "_law_row", "_law_ring", "_law_low", "_law_high"]
theorem scLaw : FnScope nLaw ["_law_script"] (defScope sLaw) := ⟨rfl, rfl, rfl, by decide +kernel, rfl, by decide +kernel, by decide +kernel⟩
theorem ok_law {f : Addr} {fd : FuncData} (F : Fun K "law" "law" sLaw f fd) (T : Bi mg) (Uarejoinedleagues : Use P w K mg base "are_joined_leagues" ["one", "other"] spJoinedL 8) (Upartingpeople : Use P w K mg base "parting_people" ["one", "other"] spPartP 8) (ULrandom : Use P w K mg base "_law_random" ["_law_generator_here", "_law_bound"] spRandom 2) (ULgenerator : Use P w K mg base "_law_generator" ["_law_script", "_law_index"] (spGen K) 2) (ULbuilt : Use P w K mg base "_law_built" ["_law_generator_here", "_law_size", "_law_wild"] spBuilt 3) (ULpairright : UseG P w K mg base "_law_pair_right" ["_law_low", "_law_high", "_law_joined"] (spPairW K) 9) (ULled : Use P w K mg base "_law_led" ["_law_generator_here", "_law_rows", "_law_many"] spLedW 4) (ULright : UseG P w K mg base "_law_right" ["_law_generator_here"] spRightW 10) (ULgreatright : UseG P w K mg base "_law_great_right" ["_law_generator_here"] spGreatR 9) : FnG P w K mg base CX0 11 f fd ["_law_script"] (spLaw K) := by
  refine FnG.mk' F scLaw (fun vs H Q E h => ?_) (fun cdv A outer s H vs Q E hgd hr h => ?_)
  · obtain ⟨a, ns, rfl, _⟩ := h
    rfl
  · obtain ⟨a, ns, rfl, ha, q⟩ := h
    have hgd' : (A.deeper (envOfC "law" (defScope sLaw) s.heap.objs.size f cdv)).guards = some [] := hgd
    refine ⟨_, (pss_cons (ps_for PassesOwn.never rfl (pi_range1 (by rfl) T.range (pa_cons pe_int pa_nil)) (pg_name (i := 1) scLaw.nd rfl (Or.inl rfl))
        (pss_one (ps_if (pt_not (pt_val (pe_useG ULright hgd' hr (by rfl) (pa_cons (pe_use ULgenerator (hr.mono (by decide)) (by rfl) (pa_cons (pv 0) (pa_cons (pv 1) pa_nil))) pa_nil))))
          (pss_one (ps_ret pe_bl)) pss_nil)))
      (pss_cons (ps_set (i := 2) scLaw.nd rfl (Or.inl rfl) (pe_use ULgenerator (hr.mono (by decide)) (by rfl) (pa_cons (pv 0) (pa_cons pe_int pa_nil))))
      (pss_cons (ps_set (i := 3) scLaw.nd rfl (Or.inl rfl) (pe_use ULbuilt (hr.mono (by decide)) (by rfl) (pa_cons (pv 2) (pa_cons pe_int (pa_cons pe_int pa_nil)))))
      (pss_cons (ps_if (pt_not (pt_val (pe_useG ULpairright hgd' (hr.mono (by decide)) (by rfl) (pa_cons (pv 3) (pa_cons (pe_ix ix_list (pe_lst (pa_cons (pe_use ULled (hr.mono (by decide)) (by rfl) (pa_cons (pv 2) (pa_cons (pv 3) (pa_cons pe_int pa_nil)))) (pa_cons (pe_use ULbuilt (hr.mono (by decide)) (by rfl) (pa_cons (pv 2) (pa_cons pe_int (pa_cons pe_int pa_nil)))) pa_nil))) (pe_use ULrandom (hr.mono (by decide)) (by rfl) (pa_cons (pv 2) (pa_cons pe_int pa_nil))) (fun _ _ => rfl)) (pa_cons pe_non pa_nil))))))
        (pss_one (ps_ret pe_bl)) pss_nil)
      (pss_cons (ps_if (pt_not (pt_val (pe_useG ULgreatright hgd' (hr.mono (by decide)) (by rfl) (pa_cons (pe_use ULgenerator (hr.mono (by decide)) (by rfl) (pa_cons (pv 0) (pa_cons pe_int pa_nil))) pa_nil))))
        (pss_one (ps_ret pe_bl)) pss_nil)
      (pss_cons (ps_if (PW.pt (pw_and (pt_cmpR op_eq (pe_use ULrandom (hr.mono (by decide)) (by rfl) (pa_cons (pe_use ULgenerator (hr.mono (by decide)) (by rfl) (pa_cons (pv 0) (pa_cons pe_int pa_nil))) (pa_cons pe_int pa_nil))) pe_int (nomark _)) (pw_and1 (pt_cmpR op_notBl (pe_use Uarejoinedleagues (hr.mono (by decide)) (by rfl) (pa_cons (pd_of (pe_lc (own := [("_law_at", 4)]) (g := (gName 4)) (tt := tYes) (te := (tOp rRep (tLst (tCons (tC (.int 0)) tNil)) (tVar 4))) rfl scLaw.nd (pi_range1 (by rfl) T.range (pa_cons pe_int pa_nil))
            (blkOk_by (N := nLaw) (sc := (defScope sLaw)) (by decide +kernel)) (fun _ _ _ _ _ => (pg_name (i := 4) scLaw.nd rfl (Or.inl rfl))) (fun _ _ _ _ _ => by exact pts_nil)
            (fun _ _ _ _ _ => by exact (pe_op op_rep (pe_lst (pa_cons pe_int pa_nil)) (pv 4)))) (rows0n_w (m := 40) (by decide) (k := 4))) (pa_cons (pe_lc (own := [("_law_at", 4)]) (g := (gName 4)) (tt := tYes) (te := (tOp rRep (tLst (tCons (tC (.int 1)) tNil)) (tVar 4))) rfl scLaw.nd (pi_range1 (by rfl) T.range (pa_cons pe_int pa_nil))
            (blkOk_by (N := nLaw) (sc := (defScope sLaw)) (by decide +kernel)) (fun _ _ _ _ _ => (pg_name (i := 4) scLaw.nd rfl (Or.inl rfl))) (fun _ _ _ _ _ => by exact pts_nil)
            (fun _ _ _ _ _ => by exact (pe_op op_rep (pe_lst (pa_cons pe_int pa_nil)) (pv 4)))) pa_nil))) pe_bl (nomark _)))))
        (pss_one (ps_ret pe_bl)) pss_nil)
      (pss_cons (ps_par (i := 5) (j := 6) rfl scLaw.nd rfl rfl (by decide) rfl rfl (pa_cons (pd_list (pds_cons (pd_list pds_nil (fun _ => by show 0 ≤ sizeLine; decide)) (pds_cons (pd_list (pds_cons (pd_int pe_int) pds_nil) (fun _ => by show 1 ≤ sizeLine; decide)) (pds_cons (pd_list (pds_cons (pd_int pe_int) (pds_cons (pd_int pe_int) pds_nil)) (fun _ => by show 2 ≤ sizeLine; decide)) pds_nil))) (fun _ => by show 3 ≤ sizeLine; decide)) (pa_cons (pd_list (pds_cons (pd_list pds_nil (fun _ => by show 0 ≤ sizeLine; decide)) (pds_cons (pd_list (pds_cons (pd_int pe_int) pds_nil) (fun _ => by show 1 ≤ sizeLine; decide)) (pds_cons (pd_list (pds_cons (pd_int pe_int) (pds_cons (pd_int pe_int) pds_nil)) (fun _ => by show 2 ≤ sizeLine; decide)) pds_nil))) (fun _ => by show 3 ≤ sizeLine; decide)) pa_nil)) (by rfl))
      (pss_cons (ps_if (PW.pt (pw_or (pt_cmpR op_notBl (pe_use Uarejoinedleagues (hr.mono (by decide)) (by rfl) (pa_cons (pv 5) (pa_cons (pd_list (pds_cons (pd_list pds_nil (fun _ => by show 0 ≤ sizeLine; decide)) (pds_cons (pd_list (pds_cons (pd_int pe_int) pds_nil) (fun _ => by show 1 ≤ sizeLine; decide)) (pds_cons (pd_list (pds_cons (pd_int pe_int) (pds_cons (pd_int pe_int) pds_nil)) (fun _ => by show 2 ≤ sizeLine; decide)) pds_nil))) (fun _ => by show 3 ≤ sizeLine; decide)) pa_nil))) pe_bl (nomark _)) (pw_or (pt_cmpR (op_neD hr.units) (pe_use Upartingpeople (hr.mono (by decide)) (by rfl) (pa_cons (pv 5) (pa_cons (pv 6) pa_nil))) (pd_list (pds_cons (pd_int pe_int) (pds_cons (pd_int pe_int) (pds_cons (pd_int pe_int) pds_nil))) (fun _ => by show 3 ≤ sizeLine; decide)) (nomark _)) (pw_or1 (pt_cmpR op_notN (pe_use Upartingpeople (hr.mono (by decide)) (by rfl) (pa_cons (pv 5) (pa_cons (pv 5) pa_nil))) pe_non (nomark _))))))
        (pss_one (ps_ret pe_bl)) pss_nil)
      (pss_cons (ps_par (i := 7) (j := 8) rfl scLaw.nd rfl rfl (by decide) rfl rfl (pa_cons (pd_list (pds_cons (pd_list pds_nil (fun _ => by show 0 ≤ sizeLine; decide)) (pds_cons (pd_list (pds_cons (pd_int pe_int) pds_nil) (fun _ => by show 1 ≤ sizeLine; decide)) (pds_cons (pd_list (pds_cons (pd_int pe_int) (pds_cons (pd_int pe_int) pds_nil)) (fun _ => by show 2 ≤ sizeLine; decide)) (pds_cons (pd_list (pds_cons (pd_int pe_int) (pds_cons (pd_int pe_int) (pds_cons (pd_int pe_int) pds_nil))) (fun _ => by show 3 ≤ sizeLine; decide)) pds_nil)))) (fun _ => by show 4 ≤ sizeLine; decide)) (pa_cons (pd_list (pds_cons (pd_list pds_nil (fun _ => by show 0 ≤ sizeLine; decide)) (pds_cons (pd_list (pds_cons (pd_int pe_int) pds_nil) (fun _ => by show 1 ≤ sizeLine; decide)) (pds_cons (pd_list (pds_cons (pd_int pe_int) (pds_cons (pd_int pe_int) pds_nil)) (fun _ => by show 2 ≤ sizeLine; decide)) (pds_cons (pd_list (pds_cons (pd_int pe_int) (pds_cons (pd_int pe_int) (pds_cons (pd_int pe_int) pds_nil))) (fun _ => by show 3 ≤ sizeLine; decide)) pds_nil)))) (fun _ => by show 4 ≤ sizeLine; decide)) pa_nil)) (by rfl))
      (pss_one (ps_ret (pe_and (pe_useG ULpairright hgd' (hr.mono (by decide)) (by rfl) (pa_cons (pv 7) (pa_cons (pv 8) (pa_cons pe_non pa_nil)))) (pe_one (pe_cmpR op_isBl (pe_use Uarejoinedleagues (hr.mono (by decide)) (by rfl) (pa_cons (pd_list (pds_cons (pd_list pds_nil (fun _ => by show 0 ≤ sizeLine; decide)) (pds_cons (pd_list (pds_cons (pd_int pe_int) pds_nil) (fun _ => by show 1 ≤ sizeLine; decide)) pds_nil)) (fun _ => by show 2 ≤ sizeLine; decide)) (pa_cons (pd_list (pds_cons (pd_list pds_nil (fun _ => by show 0 ≤ sizeLine; decide)) (pds_cons (pd_list (pds_cons (pd_int pe_int) pds_nil) (fun _ => by show 1 ≤ sizeLine; decide)) pds_nil)) (fun _ => by show 2 ≤ sizeLine; decide)) pa_nil))) pe_bl (nomark _))))))))))))))), ?_⟩
    have hS := ha
    refine ⟨3, rfl, by decide, by decide, ?_⟩
    refine for_range (lo := 0) (n := (3 : Int).toNat) (fun i σ H' => ∃ e1 : Option V, σ = [some (.ref a), e1, none, none, none, none, none, none, none] ∧ Same H H') ⟨_, rfl, Same.refl _⟩ ?_ ?_
    · rintro i σ H1 hi ⟨e1, rfl, s1⟩
      have i3 : i < 3 := hi
      refine ⟨_, rfl, _, rfl, a, ns, i, (show [V.ref a, V.int (0 + (i : Int))] = [V.ref a, V.int (i : Int)] by rw [Int.zero_add]), by omega, s1.seq hS, fun g H2 sg ng G1 => ?_⟩
      refine ⟨g, 990000, rfl, G1.less (by omega), fun H3 b3 => ⟨_, rfl, iteF ⟨_, rfl, ?_⟩⟩⟩
      exact fun b o e => b3 b o (sg b o (s1 b o e)) (ne_of_none (s1 b o e) ng)
    · rintro σ H1 ⟨e1, rfl, s1⟩
      refine ⟨_, rfl, a, ns, 3, rfl, by omega, s1.seq hS, fun g H2 sg ng G2 => ?_⟩
      refine gName_by ?_
      have G2 : GL.Gen H2 g 991000 := G2.less (by omega)
      refine ⟨_, rfl, g, 7, 2, 990700, rfl, by decide, by decide, by decide, G2, fun c H3 b3 G3 co => ?_⟩
      refine gName_by ?_
      obtain ⟨rs, kss, t, lk, fine, nc, nc1, nr1⟩ := co.ex
      have cg : c ≠ g := (G2.ne nc1).symm
      have grs : g ∉ rs := notin_new G2 nr1
      refine ⟨_, rfl, _, rfl, _, rfl, g, c, rs, kss, 9, 990655, rfl, t, grs, fine, by omega, by decide, G3, fun p1 ps1 k1 H4 b4 G4 t1 g1 J1 => ?_⟩
      refine ⟨_, rfl, g, 7, 2, 990355, rfl, by decide, by decide, by decide, G4, fun c2 H5 b5 G5 co2 => ?_⟩
      obtain ⟨rsA, kas, tA, lkA, fineA, ncA, ncA1, nrA1⟩ := co2.ex
      have gA : g ∉ rsA := notin_new G4 nrA1
      refine ⟨(by show 2 ≤ sizeLine; decide), fun M hM => ?_⟩
      obtain ⟨H6, e6, s6, f6⟩ := gen H5 hM (.lst [.ref p1, .ref c2])
      rw [e6]
      clear e6
      have Mg : M ≠ g := (G5.ne hM).symm
      have G6 := G5.same s6
      refine ⟨_, rfl, g, 2, 990350, rfl, by decide, by decide, G6, fun r H7 r0 r1 G7 b7 => ?_⟩
      obtain ⟨k, rfl⟩ : ∃ k : Nat, r = (k : Int) := ⟨r.toNat, by omega⟩
      have t6 := ((t.but b4 cg grs).but b5 cg grs).same s6
      have t16 := (t1.but b5 (row_ne t1 G4) g1).same s6
      have tA6 := tA.same s6
      have mate : ∃ (cm : Addr) (rs' : List Addr) (kts : List (List Int)), ([V.ref p1, V.ref c2] : List V)[k]? = some (.ref cm) ∧ Tab H7 cm rs' kts ∧ Fine 2 kts ∧ kts.length = kss.length := by
        have k2 : k < 2 := by omega
        match k, k2 with
        | 0, _ => exact ⟨p1, ps1, k1, rfl, t16.but b7 (row_ne t16 G6) g1, J1.fine fine, J1.len⟩
        | 1, _ => exact ⟨c2, rsA, kas, rfl, tA6.but b7 (row_ne tA6 G6) gA, fineA, by omega⟩
      obtain ⟨cm, rs', kts, ek, tm, fm, lm⟩ := mate
      refine ⟨M, _, _, _, rfl, rfl, SqL.of (b7 _ _ f6 Mg), atI_nat ek, ?_⟩
      refine ⟨c, cm, rs, rs', kss, kts, .non, rfl, t6.but b7 cg grs, tm, fine, fm, by omega, lm, by omega, .inl rfl, fun H8 s8 => ⟨true, rfl, iteF ?_⟩⟩
      have s08 : Same H H8 := fun b o e => (b3.trans (b4.trans (b5.trans ((But.of s6).trans (b7.trans (.of s8)))))) b o (sg b o (s1 b o e)) (ne_of_none (s1 b o e) ng)
      refine ⟨_, rfl, a, ns, 4, rfl, by omega, s08.seq hS, fun g4 H9 sg4 ng4 G9 => ?_⟩
      refine ⟨g4, 990000, rfl, G9.less (by omega), fun H10 b10 => ⟨true, rfl, iteF ?_⟩⟩
      have s10 : Same H H10 := fun b o e => b10 b o (sg4 b o (s08 b o e)) (ne_of_none (s08 b o e) ng4)
      refine tNext_of ?_
      dsimp only
      refine st_by (σ' := [some (.ref a), e1, some (.ref g), some (.ref c), none, none, none, none, none]) rfl ?_
      refine seq_by (fun σ' H' => σ' = [some (.ref a), e1, some (.ref g), some (.ref c), none, none, none, none, none] ∧ Same H H') (fun nx hnx => ?_) ?_
      · refine ⟨_, rfl, a, ns, 5, rfl, by omega, s10.seq hS, fun g5 H11 sg5 ng5 G11 => ?_⟩
        refine ⟨g5, 8, 990000, rfl, by decide, by decide, G11.less (by omega), fun r H12 r0 r1 G12 b12 => ?_⟩
        have s12 : Same H H12 := fun b o e => b12 b o (sg5 b o (s10 b o e)) (ne_of_none (s10 b o e) ng5)
        refine ⟨rfl, _, rfl, ?_⟩
        by_cases hr0 : r = 0
        · subst hr0
          rw [decide_eq_true rfl]
          refine iteT ?_
          refine ⟨(by show 4 < 9; decide), fun v5 H13 s13 d5 => ?_⟩
          refine ⟨40, rfl, by decide, by decide, fun D hD => ?_⟩
          have e5 : rows0 40 = tabP (laidK 40 (List.range 40)) := by rw [low40]; rfl
          rw [e5] at d5
          obtain ⟨c1, q1, rfl, t1⟩ := tab_of (laid_fine 40 _) d5
          have t1 := t1.same newH_le
          have get1 : ∀ i, i < 40 → (laidK 40 (List.range 40).reverse).getD i [] = List.replicate i 1 := fun i hi => by
            rw [high40, List.getD_eq_getElem?_getD, List.getElem?_map, List.getElem?_range hi]
            rfl
          refine lc_objs (walk_nat (n := (40 : Int).toNat)) (fun i => .lst (((laidK 40 (List.range 40).reverse).getD i []).map V.int)) hD (by rw [sizeLine_eq]; decide) (fun _ _ => trivial) ?_ ?_
          · rintro i v H14 H15 M2 hi s14 ⟨rfl, rfl⟩ hM2
            have hi : i < 40 := hi
            refine ⟨rfl, one_le, fun l hl => ?_⟩
            obtain ⟨H16, e16, s16, f16⟩ := gen H15 hl (.lst [.int 1])
            rw [e16]
            clear e16
            refine ⟨_, rfl, l, ((i : Nat) : Int), [.int 1], rfl, rfl, f16, by omega, by omega, (by show 1 * i ≤ sizeLine; rw [sizeLine_eq]; omega), fun p hp => ?_⟩
            refine hM2 _ p (s16.trans (same_new hp)) (s16.free hp) ?_
            rw [upd_same, get1 i hi, Int.toNat_natCast, List.flatten_replicate_singleton, List.map_replicate]
          · intro H14 qs s14 ob
            have l40 : (laidK 40 (List.range 40).reverse).length = 40 := laid_len _ _
            have t2 := Objs.tab (kss := laidK 40 (List.range 40).reverse) ob l40
            refine ⟨c1, D, q1, qs, _, _, rfl, t1.same s14, t2, laid_fine 40 _, laid_fine 40 _, by rw [laid_len]; decide, by rw [laid_len, laid_len], by rw [laid_len]; decide, fun v H15 s15 hv => ?_⟩
            have ev := hv.mpr (laid_rev 40)
            subst ev
            refine ⟨true, true, rfl, rfl, _, rfl, iteF ?_⟩
            exact hnx _ _ ⟨rfl, s12.trans (s13.trans (s14.trans s15))⟩
        · rw [decide_eq_false (fun z => hr0 (V.int.inj z))]
          refine iteF (iteF (hnx _ _ ⟨rfl, s12⟩))
      rintro σ H11 ⟨rfl, s11⟩
      refine ⟨⟨trivial, ⟨trivial, trivial⟩, ⟨trivial, trivial, trivial⟩, trivial⟩, fun v1 H12 s12 d1 => ?_⟩
      refine ⟨⟨trivial, ⟨trivial, trivial⟩, ⟨trivial, trivial, trivial⟩, trivial⟩, fun v2 H13 s13 d2 => ⟨_, _, rfl, ?_⟩⟩
      have f1 : Fine 2 rowU3 := fine_of (by decide +kernel)
      have f2 : Fine 2 ringU3 := fine_of (by decide +kernel)
      have d1 : Dt K (newH H11 H12) v1 (tabP rowU3) := d1
      have d2 : Dt K (newH H12 H13) v2 (tabP ringU3) := d2
      obtain ⟨c1, q1, rfl, t1⟩ := tab_of f1 d1
      obtain ⟨c2', q2, rfl, t2⟩ := tab_of f2 d2
      have t1 := (t1.same newH_le).same s13
      have t2 := t2.same newH_le
      refine ⟨_, rfl, ⟨trivial, ⟨trivial, trivial⟩, ⟨trivial, trivial, trivial⟩, trivial⟩, fun v3 H14 s14 d3 => ?_⟩
      have f3 : Fine 2 [[], [1], [1, 1]] := fine_of (by decide +kernel)
      have d3 : Dt K (newH H13 H14) v3 (tabP [[], [1], [1, 1]]) := d3
      obtain ⟨c3, q3, rfl, t3⟩ := tab_of f3 d3
      have t3 := t3.same newH_le
      refine ⟨c1, c3, q1, q3, _, _, rfl, t1.same s14, t3, f1, f3, by decide, rfl, by decide, fun v H15 s15 hv => ?_⟩
      have ev := hv.mpr jk3
      subst ev
      refine ⟨true, true, rfl, rfl, _, rfl, iteF ?_⟩
      have s1315 := s14.trans s15
      refine ⟨_, rfl, _, rfl, c1, c2', q1, q2, _, _, rfl, t1.same s1315, t2.same s1315, f1, f2, by decide, rfl, by decide, fun z => absurd z jk_no3, fun p4 l4 H16 s16 np4 hp4 pl4 _ => ?_⟩
      have e4 := part3 (show Part _ _ l4 from pl4)
      subst e4
      refine ⟨⟨trivial, trivial, trivial, trivial⟩, fun v4 H17 s17 d4 => ?_⟩
      have d4 : Dt K (newH H16 H17) v4 (rowP (nums [0, 1, 2])) := d4
      have dp4 : Dt K H16 (.ref p4) (rowP (nums [0, 1, 2])) := dtR hp4
      refine ⟨rowP (nums [0, 1, 2]), rowP (nums [0, 1, 2]), dt_dp _ _ (by decide +kernel) (dp4.same s17), dt_dp _ _ (by decide +kernel) (d4.same newH_le), by decide +kernel, by decide +kernel, ?_⟩
      rw [show PyData.eqv (rowP (nums [0, 1, 2])) (rowP (nums [0, 1, 2])) = true by decide +kernel]
      refine ⟨_, rfl, iteF ?_⟩
      have s1317 := s1315.trans (s16.trans s17)
      refine ⟨_, rfl, _, rfl, c1, c1, q1, q1, _, _, rfl, t1.same s1317, t1.same s1317, f1, f1, by decide, rfl, by decide, fun _ H18 s18 => ?_, fun p l' H18 s18 _ _ _ no => absurd .refl no⟩
      refine ⟨rfl, _, rfl, iteF ?_⟩
      refine ⟨⟨trivial, ⟨trivial, trivial⟩, ⟨trivial, trivial, trivial⟩, ⟨trivial, trivial, trivial, trivial⟩, trivial⟩, fun v5 H19 s19 d5 => ?_⟩
      refine ⟨⟨trivial, ⟨trivial, trivial⟩, ⟨trivial, trivial, trivial⟩, ⟨trivial, trivial, trivial, trivial⟩, trivial⟩, fun v6 H20 s20 d6 => ⟨_, _, rfl, ?_⟩⟩
      have f5 : Fine 2 [[], [0], [0, 0], [1, 0, 0]] := fine_of (by decide +kernel)
      have f6 : Fine 2 [[], [0], [0, 0], [1, 1, 0]] := fine_of (by decide +kernel)
      have d5 : Dt K (newH H18 H19) v5 (tabP [[], [0], [0, 0], [1, 0, 0]]) := d5
      have d6 : Dt K (newH H19 H20) v6 (tabP [[], [0], [0, 0], [1, 1, 0]]) := d6
      obtain ⟨c5, q5, rfl, t5⟩ := tab_of f5 d5
      obtain ⟨c6, q6, rfl, t6⟩ := tab_of f6 d6
      have t5 := (t5.same newH_le).same s20
      have t6 := t6.same newH_le
      refine ⟨_, rfl, _, rfl, c5, c6, q5, q6, _, _, .non, rfl, t5, t6, f5, f6, by decide, rfl, by decide, .inl rfl, fun H21 s21 => ⟨true, rfl, ?_⟩⟩
      rw [if_pos rfl]
      refine ⟨⟨trivial, ⟨trivial, trivial⟩, trivial⟩, fun v7 H22 s22 d7 => ?_⟩
      refine ⟨⟨trivial, ⟨trivial, trivial⟩, trivial⟩, fun v8 H23 s23 d8 => ?_⟩
      have f7 : Fine 2 [[], [0]] := fine_of (by decide +kernel)
      have f8 : Fine 2 [[], [1]] := fine_of (by decide +kernel)
      have d7 : Dt K (newH H21 H22) v7 (tabP [[], [0]]) := d7
      have d8 : Dt K (newH H22 H23) v8 (tabP [[], [1]]) := d8
      obtain ⟨c7, q7, rfl, t7⟩ := tab_of f7 d7
      obtain ⟨c8, q8, rfl, t8⟩ := tab_of f8 d8
      have t7 := (t7.same newH_le).same s23
      have t8 := t8.same newH_le
      refine ⟨c7, c8, q7, q8, _, _, rfl, t7, t8, f7, f8, by decide, rfl, by decide, fun v H24 s24 hv => ?_⟩
      have ev := hv.mpr jk2
      subst ev
      exact ⟨true, true, rfl, rfl, q _⟩
end
end K58

namespace K58
open PySem PySem.Spec PyProof.Rows
open L2 hiding spCell
open GL
/-- a def of the text stands under its name -/
def Has (K : PySem.W.Frag) (x : Str) (st : Stmt) : Prop := ∃ (f : Addr) (oc : Value) (od : Option Addr) (kV dc pm : Value) (an : Option Addr) (cd ct : Value) (sl : Array (Option Value)), PySem.W.nsIn K mainGlobals x = some (some (.ref f)) ∧
  K.lookup f = some ⟨oc, od, .func (PySem.W.fnOf x x (defArgs st) (defBody st) (defScope st) .none kV dc pm an cd ct), sl⟩ ∧ PySem.W.codeIn K cd x = true ∧ PySem.W.keepIn K (.ref f) = true
theorem Has.fn {K : PySem.W.Frag} {x : Str} {st : Stmt} {h : Heap} {mg : Str → Option Value} (H : Has K x st) (X : K.In h) (G : h.Ns mainGlobals mg) : ∃ (f : Addr) (fd : FuncData), Fun K x x st f fd ∧ mg x = some (.ref f) := by
  obtain ⟨f, oc, od, kV, dc, pm, an, cd, ct, sl, a, l, c, k⟩ := H
  exact ⟨f, _, fun_mk (st := st) l c k, PySem.W.mg_of X G a⟩
theorem has_mk {K : PySem.W.Frag} {x : Str} {st : Stmt} {f : Addr} {oc kV dc pm cd ct : Value} {od an : Option Addr} {sl : Array (Option Value)} (a : PySem.W.nsIn K mainGlobals x = some (some (.ref f)))
    (l : K.lookup f = some ⟨oc, od, .func (PySem.W.fnOf x x (defArgs st) (defBody st) (defScope st) .none kV dc pm an cd ct), sl⟩) (c : PySem.W.codeIn K cd x = true) (k : PySem.W.keepIn K (.ref f) = true) : Has K x st := ⟨f, oc, od, kV, dc, pm, an, cd, ct, sl, a, l, c, k⟩
/-- a written number of the text -/
def HasInt (K : PySem.W.Frag) (x : Str) (n : Int) : Prop := ∃ t, PySem.W.nsIn K mainGlobals x = some (some (.int n t))
theorem hasInt_mk {K : PySem.W.Frag} {x : Str} {n : Int} {t : Tok} (a : PySem.W.nsIn K mainGlobals x = some (some (.int n t))) : HasInt K x n := ⟨t, a⟩
def HasNot (K : PySem.W.Frag) (x : Str) : Prop := PySem.W.nsIn K mainGlobals x = some none
theorem all_mk {l : PySem.W.OpenLaw} {w : World} {K : PySem.W.Frag} {h : Heap} {mg : Str → Option Value} {fa : Addr} (X : K.In h) (G : h.Ns mainGlobals mg) (hfa : mg "law" = some (.ref fa))
    (h7 : Has K "is_whole" sWhole) (h8 : Has K "is_below" sBelow) (h9 : Has K "is_row" sRow) (h10 : Has K "is_company_of" sCompOf) (h23 : Has K "is_league" sIsL) (h14 : Has K "check_league" sChkL) (h15 : Has K "check_leagues" sChkLs) (h16 : Has K "beaten_in" sBeaten) (h18 : Has K "next_in_rows" sNextF) (h19 : Has K "rows_in" sRowsF) (h12 : Has K "bits_of" sBits) (h20 : Has K "sure_results" sSureF) (h21 : Has K "are_of_one_class" sOneF) (h25 : Has K "are_joined_leagues" sJoinedL) (h17 : Has K "beaten_among" sAmongD) (h22 : Has K "first_parting_lot" sFirstQ) (h26 : Has K "parting_people" sPartP) (h28 : Has K "_law_hash" sHash) (h29 : Has K "_law_random" sRandom) (h30 : Has K "_law_cell" sCell) (h31 : Has K "_law_generator" sGen) (h34 : Has K "_law_turned" sTurnW) (h35 : Has K "_law_built" sBuilt) (h32 : Has K "_law_won" sWon) (h33 : Has K "_law_alike" sAlikeW) (h36 : Has K "_law_couples" sCplW) (h37 : Has K "_law_walked" sWalkW) (h38 : Has K "_law_among" sAmongW) (h39 : Has K "_law_lots" sLots) (h40 : Has K "_law_parting" sPartW) (h24 : Has K "league_couples" sLCpl) (h42 : Has K "_law_between_right" sBetwW) (h41 : Has K "_law_pair_right" sPairW) (h43 : Has K "_law_led" sLedW) (h44 : Has K "_law_right" sRightW) (h45 : Has K "_law_orders" sOrdW) (h46 : Has K "_law_laid" sLaidS) (h47 : Has K "_law_great_right" sGreatR) (h48 : Has K "law" sLaw)
    (c0 : HasInt K "MOST_PEOPLE" 40)
    (z0 : HasNot K "int") (z1 : HasNot K "len") (z2 : HasNot K "sum") (z3 : HasNot K "max") (z4 : HasNot K "min") (z5 : HasNot K "range") (z6 : HasNot K "isinstance") (z7 : HasNot K "bool") (z8 : HasNot K "list") (z9 : HasNot K "tuple") (z10 : HasNot K "all") (z11 : HasNot K "enumerate") (z12 : HasNot K "repr") (z13 : HasNot K "zip") (z14 : HasNot K "any") (z15 : HasNot K "set") (z16 : HasNot K "sorted")
    (zD : HasNot K "dict")
    (m0 : PySem.W.nsIn K mainGlobals "combinations" = some (some (.type "itertools.combinations")))
    :
    ∃ fd : FuncData, (∀ (s : Shared) (v : Value), BindsTo s fd ⟨[v], []⟩ [("_law_script", v)]) ∧ ∀ base : Heap, K.In base → base.Ns mainGlobals mg → FnG l.prog w K mg base CX0 11 fa fd ["_law_script"] (spLaw K) := by
  have nn : ∀ {x : Str}, HasNot K x → mg x = none := fun z => PySem.W.mg_none_of X G z
  have T : Bi mg := ⟨nn z0, nn z1, nn z2, nn z3, nn z4, nn z5, nn z6, nn z7, nn z8, nn z9, nn z10, nn z11, nn z12, nn z13, nn z14, nn z15, nn z16⟩
  have TD : Bd mg := ⟨nn zD⟩
  have IM : Im mg := PySem.W.mg_of X G m0
  have C : Cs mg := ⟨let ⟨t, a⟩ := c0; ⟨t, PySem.W.mg_of X G a⟩⟩
  obtain ⟨f7, fd7, F7, g7⟩ := h7.fn X G
  obtain ⟨f8, fd8, F8, g8⟩ := h8.fn X G
  obtain ⟨f9, fd9, F9, g9⟩ := h9.fn X G
  obtain ⟨f10, fd10, F10, g10⟩ := h10.fn X G
  obtain ⟨f23, fd23, F23, g23⟩ := h23.fn X G
  obtain ⟨f14, fd14, F14, g14⟩ := h14.fn X G
  obtain ⟨f15, fd15, F15, g15⟩ := h15.fn X G
  obtain ⟨f16, fd16, F16, g16⟩ := h16.fn X G
  obtain ⟨f18, fd18, F18, g18⟩ := h18.fn X G
  obtain ⟨f19, fd19, F19, g19⟩ := h19.fn X G
  obtain ⟨f12, fd12, F12, g12⟩ := h12.fn X G
  obtain ⟨f20, fd20, F20, g20⟩ := h20.fn X G
  obtain ⟨f21, fd21, F21, g21⟩ := h21.fn X G
  obtain ⟨f25, fd25, F25, g25⟩ := h25.fn X G
  obtain ⟨f17, fd17, F17, g17⟩ := h17.fn X G
  obtain ⟨f22, fd22, F22, g22⟩ := h22.fn X G
  obtain ⟨f26, fd26, F26, g26⟩ := h26.fn X G
  obtain ⟨f28, fd28, F28, g28⟩ := h28.fn X G
  obtain ⟨f29, fd29, F29, g29⟩ := h29.fn X G
  obtain ⟨f30, fd30, F30, g30⟩ := h30.fn X G
  obtain ⟨f31, fd31, F31, g31⟩ := h31.fn X G
  obtain ⟨f34, fd34, F34, g34⟩ := h34.fn X G
  obtain ⟨f35, fd35, F35, g35⟩ := h35.fn X G
  obtain ⟨f32, fd32, F32, g32⟩ := h32.fn X G
  obtain ⟨f33, fd33, F33, g33⟩ := h33.fn X G
  obtain ⟨f36, fd36, F36, g36⟩ := h36.fn X G
  obtain ⟨f37, fd37, F37, g37⟩ := h37.fn X G
  obtain ⟨f38, fd38, F38, g38⟩ := h38.fn X G
  obtain ⟨f39, fd39, F39, g39⟩ := h39.fn X G
  obtain ⟨f40, fd40, F40, g40⟩ := h40.fn X G
  obtain ⟨f24, fd24, F24, g24⟩ := h24.fn X G
  obtain ⟨f42, fd42, F42, g42⟩ := h42.fn X G
  obtain ⟨f41, fd41, F41, g41⟩ := h41.fn X G
  obtain ⟨f43, fd43, F43, g43⟩ := h43.fn X G
  obtain ⟨f44, fd44, F44, g44⟩ := h44.fn X G
  obtain ⟨f45, fd45, F45, g45⟩ := h45.fn X G
  obtain ⟨f46, fd46, F46, g46⟩ := h46.fn X G
  obtain ⟨f47, fd47, F47, g47⟩ := h47.fn X G
  have b7 := F7.binds (ps := ["value"]) fun _ _ _ _ _ _ us hl => match us, hl with | [_], _ => rfl
  have b8 := F8.binds (ps := ["value", "bound"]) fun _ _ _ _ _ _ us hl => match us, hl with | [_, _], _ => rfl
  have b9 := F9.binds (ps := ["kinds", "many", "value"]) fun _ _ _ _ _ _ us hl => match us, hl with | [_, _, _], _ => rfl
  have b10 := F10.binds (ps := ["kinds", "value"]) fun _ _ _ _ _ _ us hl => match us, hl with | [_, _], _ => rfl
  have b23 := F23.binds (ps := ["value"]) fun _ _ _ _ _ _ us hl => match us, hl with | [_], _ => rfl
  have b14 := F14.binds (ps := ["league"]) fun _ _ _ _ _ _ us hl => match us, hl with | [_], _ => rfl
  have b15 := F15.binds (ps := ["one", "other"]) fun _ _ _ _ _ _ us hl => match us, hl with | [_, _], _ => rfl
  have b16 := F16.binds (ps := ["league"]) fun _ _ _ _ _ _ us hl => match us, hl with | [_], _ => rfl
  have b18 := F18.binds (ps := ["beaten"]) fun _ _ _ _ _ _ us hl => match us, hl with | [_], _ => rfl
  have b19 := F19.binds (ps := ["beaten"]) fun _ _ _ _ _ _ us hl => match us, hl with | [_], _ => rfl
  have b12 := F12.binds (ps := ["people"]) fun _ _ _ _ _ _ us hl => match us, hl with | [_], _ => rfl
  have b20 := F20.binds (ps := ["beaten", "rows"]) fun _ _ _ _ _ _ us hl => match us, hl with | [_, _], _ => rfl
  have b21 := F21.binds (ps := ["beaten", "others"]) fun _ _ _ _ _ _ us hl => match us, hl with | [_, _], _ => rfl
  have b25 := F25.binds (ps := ["one", "other"]) fun _ _ _ _ _ _ us hl => match us, hl with | [_, _], _ => rfl
  have b17 := F17.binds (ps := ["beaten", "lot"]) fun _ _ _ _ _ _ us hl => match us, hl with | [_, _], _ => rfl
  have b22 := F22.binds (ps := ["beaten", "others", "many"]) fun _ _ _ _ _ _ us hl => match us, hl with | [_, _, _], _ => rfl
  have b26 := F26.binds (ps := ["one", "other"]) fun _ _ _ _ _ _ us hl => match us, hl with | [_, _], _ => rfl
  have b28 := F28.binds (ps := ["_law_seed", "_law_index"]) fun _ _ _ _ _ _ us hl => match us, hl with | [_, _], _ => rfl
  have b29 := F29.binds (ps := ["_law_generator_here", "_law_bound"]) fun _ _ _ _ _ _ us hl => match us, hl with | [_, _], _ => rfl
  have b30 := F30.binds (ps := ["_law_script", "_law_index"]) fun _ _ _ _ _ _ us hl => match us, hl with | [_, _], _ => rfl
  have b31 := F31.binds (ps := ["_law_script", "_law_index"]) fun _ _ _ _ _ _ us hl => match us, hl with | [_, _], _ => rfl
  have b34 := F34.binds (ps := ["_law_rows", "_law_one", "_law_other"]) fun _ _ _ _ _ _ us hl => match us, hl with | [_, _, _], _ => rfl
  have b35 := F35.binds (ps := ["_law_generator_here", "_law_size", "_law_wild"]) fun _ _ _ _ _ _ us hl => match us, hl with | [_, _, _], _ => rfl
  have b32 := F32.binds (ps := ["_law_rows", "_law_one", "_law_other"]) fun _ _ _ _ _ _ us hl => match us, hl with | [_, _, _], _ => rfl
  have b33 := F33.binds (ps := ["_law_rows", "_law_one", "_law_other"]) fun _ _ _ _ _ _ us hl => match us, hl with | [_, _, _], _ => rfl
  have b36 := F36.binds (ps := ["_law_rows"]) fun _ _ _ _ _ _ us hl => match us, hl with | [_], _ => rfl
  have b37 := F37.binds (ps := ["_law_rows"]) fun _ _ _ _ _ _ us hl => match us, hl with | [_], _ => rfl
  have b38 := F38.binds (ps := ["_law_rows", "_law_people"]) fun _ _ _ _ _ _ us hl => match us, hl with | [_, _], _ => rfl
  have b39 := F39.binds (ps := ["_law_size", "_law_many"]) fun _ _ _ _ _ _ us hl => match us, hl with | [_, _], _ => rfl
  have b40 := F40.binds (ps := ["_law_low", "_law_high"]) fun _ _ _ _ _ _ us hl => match us, hl with | [_, _], _ => rfl
  have b24 := F24.binds (ps := ["league"]) fun _ _ _ _ _ _ us hl => match us, hl with | [_], _ => rfl
  have b42 := F42.binds (ps := ["_law_low", "_law_high"]) fun _ _ _ _ _ _ us hl => match us, hl with | [_, _], _ => rfl
  have b41 := F41.binds (ps := ["_law_low", "_law_high", "_law_joined"]) fun _ _ _ _ _ _ us hl => match us, hl with | [_, _, _], _ => rfl
  have b43 := F43.binds (ps := ["_law_generator_here", "_law_rows", "_law_many"]) fun _ _ _ _ _ _ us hl => match us, hl with | [_, _, _], _ => rfl
  have b44 := F44.binds (ps := ["_law_generator_here"]) fun _ _ _ _ _ _ us hl => match us, hl with | [_], _ => rfl
  have b45 := F45.binds (ps := ["_law_generator_here", "_law_people"]) fun _ _ _ _ _ _ us hl => match us, hl with | [_, _], _ => rfl
  have b46 := F46.binds (ps := ["_law_order"]) fun _ _ _ _ _ _ us hl => match us, hl with | [_], _ => rfl
  have b47 := F47.binds (ps := ["_law_generator_here"]) fun _ _ _ _ _ _ us hl => match us, hl with | [_], _ => rfl
  obtain ⟨fl, oc, od, kV, dc, pm, an, cd, ct, sl, al, ll, cl, kl⟩ := h48
  have e := hfa.symm.trans (PySem.W.mg_of X G al)
  cases e
  refine ⟨PySem.W.fnOf "law" "law" (defArgs sLaw) (defBody sLaw) (defScope sLaw) .none kV dc pm an cd ct, fun s v => .of_eq rfl, fun base _ _ => ?_⟩
  have U7 : Use l.prog w K mg base "is_whole" ["value"] (spWhole K) 1 := ⟨f7, fd7, ok_whole F7 T, g7, F7.kp, b7⟩
  have U8 : Use l.prog w K mg base "is_below" ["value", "bound"] (spBelow K) 2 := ⟨f8, fd8, ok_below F8 U7, g8, F8.kp, b8⟩
  have U9 : Use l.prog w K mg base "is_row" ["kinds", "many", "value"] (spRow K) 3 := ⟨f9, fd9, ok_row F9 T U8, g9, F9.kp, b9⟩
  have U10 : Use l.prog w K mg base "is_company_of" ["kinds", "value"] (spCompOf K) 4 := ⟨f10, fd10, ok_compOf F10 T C U9, g10, F10.kp, b10⟩
  have U23 : Use l.prog w K mg base "is_league" ["value"] (spIsL K) 5 := ⟨f23, fd23, ok_isL F23 T U10, g23, F23.kp, b23⟩
  have U14 : Use l.prog w K mg base "check_league" ["league"] (spChkL K) 6 := ⟨f14, fd14, ok_chkL F14 T U23, g14, F14.kp, b14⟩
  have U15 : Use l.prog w K mg base "check_leagues" ["one", "other"] spChkLs 7 := ⟨f15, fd15, ok_chkLs F15 T U14, g15, F15.kp, b15⟩
  have U16 : Use l.prog w K mg base "beaten_in" ["league"] spBeaten 1 := ⟨f16, fd16, ok_beaten F16 T, g16, F16.kp, b16⟩
  have U18 : Use l.prog w K mg base "next_in_rows" ["beaten"] spNextF 1 := ⟨f18, fd18, ok_nextF F18 T, g18, F18.kp, b18⟩
  have U19 : Use l.prog w K mg base "rows_in" ["beaten"] spRowsF 2 := ⟨f19, fd19, ok_rowsF F19 T U18, g19, F19.kp, b19⟩
  have U12 : Use l.prog w K mg base "bits_of" ["people"] spBits 1 := ⟨f12, fd12, ok_bits F12 T, g12, F12.kp, b12⟩
  have U20 : Use l.prog w K mg base "sure_results" ["beaten", "rows"] spSureF 2 := ⟨f20, fd20, ok_sureF F20 T TD U12, g20, F20.kp, b20⟩
  have U21 : Use l.prog w K mg base "are_of_one_class" ["beaten", "others"] spOneF 3 := ⟨f21, fd21, ok_oneF F21 T U19 U20, g21, F21.kp, b21⟩
  have U25 : Use l.prog w K mg base "are_joined_leagues" ["one", "other"] spJoinedL 8 := ⟨f25, fd25, ok_joinedL F25 T U15 U16 U21, g25, F25.kp, b25⟩
  have U17 : Use l.prog w K mg base "beaten_among" ["beaten", "lot"] spAmongD 2 := ⟨f17, fd17, ok_amongD F17 T U12, g17, F17.kp, b17⟩
  have U22 : Use l.prog w K mg base "first_parting_lot" ["beaten", "others", "many"] spFirstQ 4 := ⟨f22, fd22, ok_firstQ F22 T IM U17 U21, g22, F22.kp, b22⟩
  have U26 : Use l.prog w K mg base "parting_people" ["one", "other"] spPartP 8 := ⟨f26, fd26, ok_partP F26 T U15 U16 U21 U22, g26, F26.kp, b26⟩
  have U28 : Use l.prog w K mg base "_law_hash" ["_law_seed", "_law_index"] spHash 1 := ⟨f28, fd28, ok_hash F28 T, g28, F28.kp, b28⟩
  have U29 : Use l.prog w K mg base "_law_random" ["_law_generator_here", "_law_bound"] spRandom 2 := ⟨f29, fd29, ok_random F29 T U28, g29, F29.kp, b29⟩
  have U30 : Use l.prog w K mg base "_law_cell" ["_law_script", "_law_index"] (spCell K) 1 := ⟨f30, fd30, ok_cell F30 T, g30, F30.kp, b30⟩
  have U31 : Use l.prog w K mg base "_law_generator" ["_law_script", "_law_index"] (spGen K) 2 := ⟨f31, fd31, ok_gen F31 T U30, g31, F31.kp, b31⟩
  have U34 : Use l.prog w K mg base "_law_turned" ["_law_rows", "_law_one", "_law_other"] spTurnW 1 := ⟨f34, fd34, ok_turnW F34 T, g34, F34.kp, b34⟩
  have U35 : Use l.prog w K mg base "_law_built" ["_law_generator_here", "_law_size", "_law_wild"] spBuilt 3 := ⟨f35, fd35, ok_built F35 T U29 U34, g35, F35.kp, b35⟩
  have U32 : Use l.prog w K mg base "_law_won" ["_law_rows", "_law_one", "_law_other"] spWon 1 := ⟨f32, fd32, ok_won F32 T, g32, F32.kp, b32⟩
  have U33 : Use l.prog w K mg base "_law_alike" ["_law_rows", "_law_one", "_law_other"] spAlikeW 2 := ⟨f33, fd33, ok_alikeW F33 T U32, g33, F33.kp, b33⟩
  have U36 : Use l.prog w K mg base "_law_couples" ["_law_rows"] spCplW 3 := ⟨f36, fd36, ok_cplW F36 T U33, g36, F36.kp, b36⟩
  have U37 : UseG l.prog w K mg base "_law_walked" ["_law_rows"] (spWalkW K) 5 := ⟨f37, fd37, ok_walkW F37 T U34 U36, g37, F37.kp, b37⟩
  have U38 : Use l.prog w K mg base "_law_among" ["_law_rows", "_law_people"] spAmongW 2 := ⟨f38, fd38, ok_amongW F38 T U32, g38, F38.kp, b38⟩
  have U39 : Use l.prog w K mg base "_law_lots" ["_law_size", "_law_many"] spLots 1 := ⟨f39, fd39, ok_lots F39 T, g39, F39.kp, b39⟩
  have U40 : UseG l.prog w K mg base "_law_parting" ["_law_low", "_law_high"] (spPartW K) 6 := ⟨f40, fd40, ok_partW F40 T U37 U38 U39, g40, F40.kp, b40⟩
  have U24 : Use l.prog w K mg base "league_couples" ["league"] spLCpl 7 := ⟨f24, fd24, ok_lCpl F24 T U14 U16 U18, g24, F24.kp, b24⟩
  have U42 : Use l.prog w K mg base "_law_between_right" ["_law_low", "_law_high"] (spBetwW K) 8 := ⟨f42, fd42, ok_betwW F42 T U24 U32, g42, F42.kp, b42⟩
  have U41 : UseG l.prog w K mg base "_law_pair_right" ["_law_low", "_law_high", "_law_joined"] (spPairW K) 9 := ⟨f41, fd41, ok_pairW F41 T U25 U26 U40 U42, g41, F41.kp, b41⟩
  have U43 : Use l.prog w K mg base "_law_led" ["_law_generator_here", "_law_rows", "_law_many"] spLedW 4 := ⟨f43, fd43, ok_ledW F43 T U29 U34 U36, g43, F43.kp, b43⟩
  have U44 : UseG l.prog w K mg base "_law_right" ["_law_generator_here"] spRightW 10 := ⟨f44, fd44, ok_rightW F44 T U29 U34 U35 U37 U41 U43, g44, F44.kp, b44⟩
  have U45 : Use l.prog w K mg base "_law_orders" ["_law_generator_here", "_law_people"] spOrdW 3 := ⟨f45, fd45, ok_ordW F45 T U29, g45, F45.kp, b45⟩
  have U46 : Use l.prog w K mg base "_law_laid" ["_law_order"] spLaidS 2 := ⟨f46, fd46, ok_laidS F46 T, g46, F46.kp, b46⟩
  have U47 : UseG l.prog w K mg base "_law_great_right" ["_law_generator_here"] spGreatR 9 := ⟨f47, fd47, ok_greatR F47 T U24 U25 U26 U29 U34 U36 U45 U46, g47, F47.kp, b47⟩
  exact ok_law (fun_mk (st := sLaw) ll cl kl) T U25 U26 U29 U31 U35 U41 U43 U44 U47
end K58
open PySem PySem.W PyProof.Rows
set_option maxRecDepth 100000 in
set_option maxHeartbeats 0 in
theorem PySem.Challenge.cw_twinties_k58_whole_joined_leagues_by_fou_holds : PySem.Challenge.rw_twinties_k58_whole_joined_leagues_by_fou.Holds := by
  w_on; o_law; k_head; (case hw => w_witness2)
  k_fill
  refine GL.walk_ofG (l := PySem.Challenge.rw_twinties_k58_whole_joined_leagues_by_fou) (n := 63) (k := 11) (x := "_law_script") (sp := GL.spLaw) rfl (by decide) rfl ⟨rfl, by decide, by decide⟩ (fun w h Y => PySem.W.kIn_of Y) ?F (fun K H a ns hl _ hS => ⟨a, ns, rfl, hS, fun _ => rfl⟩)
  case F =>
    intro w mg fa h KX G hmg
    refine' K58.all_mk KX G hmg ?h7 ?h8 ?h9 ?h10 ?h23 ?h14 ?h15 ?h16 ?h18 ?h19 ?h12 ?h20 ?h21 ?h25 ?h17 ?h22 ?h26 ?h28 ?h29 ?h30 ?h31 ?h34 ?h35 ?h32 ?h33 ?h36 ?h37 ?h38 ?h39 ?h40 ?h24 ?h42 ?h41 ?h43 ?h44 ?h45 ?h46 ?h47 ?h48 ?c0 ?z0 ?z1 ?z2 ?z3 ?z4 ?z5 ?z6 ?z7 ?z8 ?z9 ?z10 ?z11 ?z12 ?z13 ?z14 ?z15 ?z16 ?zD ?m0
    (case zD => (show PySem.W.nsIn _ mainGlobals _ = some none); k_is)
    (case h7 => refine' K58.has_mk ?a ?l ?c ?k; (case a => k_is); (case l => k_is); (case c => k_is); (case k => k_is))
    (case h8 => refine' K58.has_mk ?a ?l ?c ?k; (case a => k_is); (case l => k_is); (case c => k_is); (case k => k_is))
    (case h9 => refine' K58.has_mk ?a ?l ?c ?k; (case a => k_is); (case l => k_is); (case c => k_is); (case k => k_is))
    (case h10 => refine' K58.has_mk ?a ?l ?c ?k; (case a => k_is); (case l => k_is); (case c => k_is); (case k => k_is))
    (case h23 => refine' K58.has_mk ?a ?l ?c ?k; (case a => k_is); (case l => k_is); (case c => k_is); (case k => k_is))
    (case h14 => refine' K58.has_mk ?a ?l ?c ?k; (case a => k_is); (case l => k_is); (case c => k_is); (case k => k_is))
    (case h15 => refine' K58.has_mk ?a ?l ?c ?k; (case a => k_is); (case l => k_is); (case c => k_is); (case k => k_is))
    (case h16 => refine' K58.has_mk ?a ?l ?c ?k; (case a => k_is); (case l => k_is); (case c => k_is); (case k => k_is))
    (case h18 => refine' K58.has_mk ?a ?l ?c ?k; (case a => k_is); (case l => k_is); (case c => k_is); (case k => k_is))
    (case h19 => refine' K58.has_mk ?a ?l ?c ?k; (case a => k_is); (case l => k_is); (case c => k_is); (case k => k_is))
    (case h12 => refine' K58.has_mk ?a ?l ?c ?k; (case a => k_is); (case l => k_is); (case c => k_is); (case k => k_is))
    (case h20 => refine' K58.has_mk ?a ?l ?c ?k; (case a => k_is); (case l => k_is); (case c => k_is); (case k => k_is))
    (case h21 => refine' K58.has_mk ?a ?l ?c ?k; (case a => k_is); (case l => k_is); (case c => k_is); (case k => k_is))
    (case h25 => refine' K58.has_mk ?a ?l ?c ?k; (case a => k_is); (case l => k_is); (case c => k_is); (case k => k_is))
    (case h17 => refine' K58.has_mk ?a ?l ?c ?k; (case a => k_is); (case l => k_is); (case c => k_is); (case k => k_is))
    (case h22 => refine' K58.has_mk ?a ?l ?c ?k; (case a => k_is); (case l => k_is); (case c => k_is); (case k => k_is))
    (case h26 => refine' K58.has_mk ?a ?l ?c ?k; (case a => k_is); (case l => k_is); (case c => k_is); (case k => k_is))
    (case h28 => refine' K58.has_mk ?a ?l ?c ?k; (case a => k_is); (case l => k_is); (case c => k_is); (case k => k_is))
    (case h29 => refine' K58.has_mk ?a ?l ?c ?k; (case a => k_is); (case l => k_is); (case c => k_is); (case k => k_is))
    (case h30 => refine' K58.has_mk ?a ?l ?c ?k; (case a => k_is); (case l => k_is); (case c => k_is); (case k => k_is))
    (case h31 => refine' K58.has_mk ?a ?l ?c ?k; (case a => k_is); (case l => k_is); (case c => k_is); (case k => k_is))
    (case h34 => refine' K58.has_mk ?a ?l ?c ?k; (case a => k_is); (case l => k_is); (case c => k_is); (case k => k_is))
    (case h35 => refine' K58.has_mk ?a ?l ?c ?k; (case a => k_is); (case l => k_is); (case c => k_is); (case k => k_is))
    (case h32 => refine' K58.has_mk ?a ?l ?c ?k; (case a => k_is); (case l => k_is); (case c => k_is); (case k => k_is))
    (case h33 => refine' K58.has_mk ?a ?l ?c ?k; (case a => k_is); (case l => k_is); (case c => k_is); (case k => k_is))
    (case h36 => refine' K58.has_mk ?a ?l ?c ?k; (case a => k_is); (case l => k_is); (case c => k_is); (case k => k_is))
    (case h37 => refine' K58.has_mk ?a ?l ?c ?k; (case a => k_is); (case l => k_is); (case c => k_is); (case k => k_is))
    (case h38 => refine' K58.has_mk ?a ?l ?c ?k; (case a => k_is); (case l => k_is); (case c => k_is); (case k => k_is))
    (case h39 => refine' K58.has_mk ?a ?l ?c ?k; (case a => k_is); (case l => k_is); (case c => k_is); (case k => k_is))
    (case h40 => refine' K58.has_mk ?a ?l ?c ?k; (case a => k_is); (case l => k_is); (case c => k_is); (case k => k_is))
    (case h24 => refine' K58.has_mk ?a ?l ?c ?k; (case a => k_is); (case l => k_is); (case c => k_is); (case k => k_is))
    (case h42 => refine' K58.has_mk ?a ?l ?c ?k; (case a => k_is); (case l => k_is); (case c => k_is); (case k => k_is))
    (case h41 => refine' K58.has_mk ?a ?l ?c ?k; (case a => k_is); (case l => k_is); (case c => k_is); (case k => k_is))
    (case h43 => refine' K58.has_mk ?a ?l ?c ?k; (case a => k_is); (case l => k_is); (case c => k_is); (case k => k_is))
    (case h44 => refine' K58.has_mk ?a ?l ?c ?k; (case a => k_is); (case l => k_is); (case c => k_is); (case k => k_is))
    (case h45 => refine' K58.has_mk ?a ?l ?c ?k; (case a => k_is); (case l => k_is); (case c => k_is); (case k => k_is))
    (case h46 => refine' K58.has_mk ?a ?l ?c ?k; (case a => k_is); (case l => k_is); (case c => k_is); (case k => k_is))
    (case h47 => refine' K58.has_mk ?a ?l ?c ?k; (case a => k_is); (case l => k_is); (case c => k_is); (case k => k_is))
    (case h48 => refine' K58.has_mk ?a ?l ?c ?k; (case a => k_is); (case l => k_is); (case c => k_is); (case k => k_is))
    (case c0 => refine' K58.hasInt_mk ?a; (case a => k_is))
    (case z0 => (show PySem.W.nsIn _ mainGlobals _ = some none); k_is)
    (case z1 => (show PySem.W.nsIn _ mainGlobals _ = some none); k_is)
    (case z2 => (show PySem.W.nsIn _ mainGlobals _ = some none); k_is)
    (case z3 => (show PySem.W.nsIn _ mainGlobals _ = some none); k_is)
    (case z4 => (show PySem.W.nsIn _ mainGlobals _ = some none); k_is)
    (case z5 => (show PySem.W.nsIn _ mainGlobals _ = some none); k_is)
    (case z6 => (show PySem.W.nsIn _ mainGlobals _ = some none); k_is)
    (case z7 => (show PySem.W.nsIn _ mainGlobals _ = some none); k_is)
    (case z8 => (show PySem.W.nsIn _ mainGlobals _ = some none); k_is)
    (case z9 => (show PySem.W.nsIn _ mainGlobals _ = some none); k_is)
    (case z10 => (show PySem.W.nsIn _ mainGlobals _ = some none); k_is)
    (case z11 => (show PySem.W.nsIn _ mainGlobals _ = some none); k_is)
    (case z12 => (show PySem.W.nsIn _ mainGlobals _ = some none); k_is)
    (case z13 => (show PySem.W.nsIn _ mainGlobals _ = some none); k_is)
    (case z14 => (show PySem.W.nsIn _ mainGlobals _ = some none); k_is)
    (case z15 => (show PySem.W.nsIn _ mainGlobals _ = some none); k_is)
    (case z16 => (show PySem.W.nsIn _ mainGlobals _ = some none); k_is)
    (case m0 => (show PySem.W.nsIn _ mainGlobals _ = some (some (.type "itertools.combinations"))); k_is)

