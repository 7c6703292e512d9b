import PyProof.Rows.All
import Wide.All
import OpenK.AllK
import Wide.FinOn
import PyProof.ReprRoads
import HandS.ForMost
import HandS.IsInst
import HandS.Wide
import HandS.WideBits
import HandS.Conv
import HandS.Style
import HandS.Flow
import HandS.Walk
import HandS.Zip
import HandS.Deep
import KE.SortData
import KE.OsSetLaws
import HandS.RepeatKit
import HandS.Sort
import HandS.NoneIn
import HandS.SortInts
import HandS.TryOnly
import KE.OsSort
import HandS.ExcValue
import HandS.ExcIs
import HandS.ExcField
import HandS.ExcInit
import KE.KExcIs
import HandS.Defaults
import HandS.WordsExc
import PySem.Challenge.RW_twinties_k05_companies_and_deeds_refused
set_option Elab.async false
set_option linter.all false
set_option maxRecDepth 100000
set_option maxHeartbeats 4000000
/-! Defs whose promise is told where no guard of a repr stands around: a def that asks repr of a list holds its promise there alone. -/
namespace GL
open PySem PySem.Spec PyProof.Rows L2

/-- a def's promise, told of calls around which no repr is under way -/
structure FnG (P : Program) (w : World) (K : PySem.W.Frag) (mg : Str → Option Value) (base : Heap) (CX : CXT) (k : Nat) (f : Addr) (fd : FuncData) (ps : List Str) (sp : Sp) : Prop where
  many : ∀ vs H Q E, sp vs H Q E → vs.length = ps.length
  goes : ∀ (A : Around) (outer : List Env) (s : Shared) (H : Hp) (args : Args) (us : List Value) (vs : List V) (Q : VK) (E : XK), A.guards = some [] → Room k A →
    Env0 P w K mg base A outer s H → BindsTo s fd args (ps.zip us) → Vals vs us → sp vs H Q E → codeAny (model P w) A (.call (.ref f) args) (CR CX outer P w H s Q E) s

section
variable {P : Program} {w : World} {K : PySem.W.Frag} {mg : Str → Option Value} {base : Heap} {CX : CXT} {k : Nat} {f : Addr} {fd : FuncData} {ps : List Str} {sp : Sp}
theorem FnG.of (F : FnOk P w K mg base CX k f fd ps sp) : FnG P w K mg base CX k f fd ps sp := ⟨F.len, fun A o s H a us vs Q E _ => F.run A o s H a us vs Q E⟩
end

section
variable {P : Program} {w : World} {K : PySem.W.Frag} {mg : Str → Option Value} {base : Heap}
/-- the body's walk gives the promise -/
theorem FnG.mk' {x qual : Str} {st : Stmt} {f : Addr} {fd : FuncData} {N ps : List Str} {k : Nat} {sp : Sp} (F : Fun K x qual st f fd) (S : FnScope N ps (defScope st)) (many : ∀ vs H Q E, sp vs H Q E → vs.length = ps.length)
    (walk : ∀ (cdv : Value) (A : Around) (outer : List Env) (s : Shared) (H : Hp) (vs : List V) (Q : VK) (E : XK), A.guards = some [] → Room k (A.deeper (envOfC qual (defScope st) s.heap.objs.size f cdv)) → sp vs H Q E →
      ∃ t, PSs (cxOf CX0 P w K mg base N qual (defScope st) f cdv A outer s H E).nox (defBody st) t ∧ t { nx := fun _ H' => Q .non H', rt := Q } (start N vs) H) : FnG P w K mg base CX0 (k + 1) f fd ps sp := by
  obtain ⟨oc, od, kV, doc, pm, an, cdv, ct, osl, efd, lk, hcd⟩ := F.ex
  subst efd
  refine ⟨many, ?_⟩
  intro A outer s H args us vs Q E hg hr e0 hb rv hsp
  have cnt := many _ _ _ _ hsp
  have up : ∀ b o, base.get? b = some o → s.heap.get? b = some o := fun b o e => (e0.bs b o e).1
  have inK : K.In s.heap := e0.mod.kin.keeps up
  have kinds : ∀ y ∈ ps.zip us, (defScope st).names.lookup y.1 = some .local ∨ ((defScope st).names.lookup y.1 = some .cell ∧ ((cellsFrom (s.heap.objs.size + 1) (defScope st).names []).lookup y.1).isSome = true) := by
    rintro ⟨n, v⟩ hy
    exact (S.par n (List.of_mem_zip hy).1).elim (fun q => .inl q) fun q => .inr ⟨q, PySem.W.cellsFrom_some _ _ _ (.inl q)⟩
  refine codeAny_call_function hr.depth (inK _ _ lk) rfl S.co S.gen rfl (PySem.W.codeRec_of inK hcd) (hb _ _ _ _ (wpAny_newFunctionEnv_cells S.kind kinds fun env he s1 x => ?_))
  subst he
  refine ⟨(e0.mod.nolimit.keeps up).keeps x.toInCall.keep, codeAny_func ?_⟩
  obtain ⟨t, ht, hq⟩ := walk cdv A outer s H vs Q E hg (hr.deeper _) hsp
  refine wpAny_mono (ht.nox.run [] s1 (start N vs) H _ (inv_start S hr.hd e0 cnt rv x) hq) (fun fl s' hs => ?_) fun e s' hs => hs
  cases fl with
  | next => exact let ⟨σ', H', J, q⟩ := hs; ⟨V.non, H', J.os, J.bare, J.base, J.hok, rfl, q⟩
  | ret u => exact let ⟨v, σ', H', J, rr, q⟩ := hs; ⟨v, H', J.os, J.bare, J.base, J.hok, rr, q⟩
  | brk => obtain ⟨σ', H', J, q⟩ := hs; exact q.elim
  | cont => obtain ⟨σ', H', J, q⟩ := hs; exact q.elim
end
end GL

namespace GL
open PySem PySem.Spec PyProof.Rows L2
open L2 (Room)
/-! ### a call of such a def from a body around which no guard stands -/
section
variable {X : Cx} {CX : CXT} {k : Nat} {f : Addr} {fd : FuncData} {ps : List Str} {sp : Sp} {ds : List Value} {dvs : List V} {E : XK} {x : Str} {e : Expr} {es : List Expr} {t : TA} {p pos : Pos}
theorem FnG.used {pins : List (Addr × Obj)} {σ : L2.St} {H : Hp} {s : Shared} {Q : VK} {us : List Value} {vs : List V} (F : FnG X.prog X.w X.K X.mg X.base CX k f fd ps sp) (hg : X.A.guards = some []) (hr : Room k X.A) (hb : Binds X.K fd ps ds)
    (hd : Vals dvs ds) (hx : Passes CX X E) (I : Inv X pins σ H s) (r : Vals vs us) (h : sp (vs ++ dvs) H Q E) : wpAny (model X.prog X.w) X.A (call (.ref f) us) (EP X pins σ Q) X.xe s := by
  have both : Vals (vs ++ dvs) (us ++ ds) := r.append hd
  have cnt : (us ++ ds).length = ps.length := (both.length).symm.trans (F.many _ _ _ _ h)
  refine wpAny_call (codeAny_mono (F.goes X.A X.stack s H ⟨us, []⟩ (us ++ ds) (vs ++ dvs) Q E hg hr I.env0 (hb s us I.kIn cnt) both h) ?_)
  rintro (er | fl) s' q
  · exact hx pins σ H s er s' I q
  · match fl, q with
    | .ret u, q => exact I.after q
theorem pe_callG (F : FnG X.prog X.w X.K X.mg X.base CX k f fd ps sp) (hgd : X.A.guards = some []) (hr : Room k X.A) (hg : Gl X x) (hm : X.mg x = some (.ref f)) (hk : PySem.W.keepIn X.K (.ref f) = true) (hb : Binds X.K fd ps ds) (hd : Vals dvs ds) (hx : Passes CX X E)
    (ha : PA X (e :: es) t) (hdb : (x == ("__debug__" : Str)) = false := by decide) (he : starEach (e :: es) X.env = (false, eval e X.env) :: starEach es X.env := by rfl) (hpl : (backTo pos (starEach es X.env)).any (·.1) = false := by rfl) :
    PE X (.Call (.Name x p) (e :: es) [] pos) (tCall sp dvs E t) :=
  ⟨fun pins s σ H Q I h => wpAny_Call_Name_kw (ld_glob I hg hm (PySem.W.callWith_K (h₀ := X.base) I.ok.mod.kin hk (thn (ha.run pos pins s σ H _ I h) fun us s1 hh => by
    obtain ⟨vs, H1, I1, r, q⟩ := hh
    exact ⟨I1.kIn, F.used hgd hr hb hd hx I1 r q⟩) he hpl) hdb)⟩
end
/-! ### the end -/
theorem law_callG {P : Program} {w : World} {K : PySem.W.Frag} {mg mb : Str → Option Value} {k : Nat} {fa a : Addr} {fd : FuncData} {x : Str} {sp : Sp} {s₁ : Shared} {vs : List Value} {ns : List Int}
    (KX : K.In s₁.heap) (hns : s₁.heap.Ns mainGlobals mg) (hb : s₁.heap.Ns builtinsNs mb) (hbb : ∀ x : Str, x ≠ "__name__" → mb x = bootBuiltins x) (hlim : s₁.heap.NoLimit) (hgen : s₁.gens = #[])
    (ha : s₁.heap.get? a = some { cls := .type "list", data := .seq vs.toArray }) (hi : IntsAre vs ns) (hl : ns.length ≤ sizeLine) (hr : Room k callerA)
    (F : ∀ base : Heap, K.In base → base.Ns mainGlobals mg → FnG P w K mg base CX0 k fa fd [x] sp) (hbind : ∀ (s : Shared) (u : Value), BindsTo s fd ⟨[u], []⟩ [(x, u)])
    (hsp : ∀ H : Hp, Only H → SqL K H a (ns.map V.int) → sp [.ref a] H (fun v _ => v = .bl true) fun _ _ _ => False) :
    codeAny (model P w) callerA (.call (.ref fa) ⟨[.ref a], []⟩) (fun r s' => r = .ok (.ret (.bool true)) ∧ OldK s₁.heap s'.heap ∧ s'.os = s₁.os ∧ AllBare s'.gens) s₁ := by
  have vals := vals_ints hi
  have cnt := hi.length
  -- whichever heap of tracked things holds the script alone
  suffices main : ∀ H : Hp, Only H → SqL K H a (ns.map V.int) → HOk P w H s₁.heap → (∀ b, H b ≠ none → b = a ∧ K.lookup a = none) →
      codeAny (model P w) callerA (.call (.ref fa) ⟨[.ref a], []⟩) (fun r s' => r = .ok (.ret (.bool true)) ∧ OldK s₁.heap s'.heap ∧ s'.os = s₁.os ∧ AllBare s'.gens) s₁ by
    by_cases hk : ∃ o, K.lookup a = some o
    · obtain ⟨o, hk⟩ := hk
      have eo : o = { cls := .type "list", data := .seq vs.toArray } := Option.some.inj ((KX a o hk).symm.trans ha)
      subst eo
      exact main (fun _ => none) (fun _ => Or.inl rfl) (Or.inr ⟨_, vs.toArray, _, hk, rfl, rfl, rfl, by rw [List.size_toArray, cnt]; exact hl, by simpa using vals⟩) (fun b u z => nomatch (show (none : Option HO) = some u from z)) fun b z => (z rfl).elim
    · have hk0 : K.lookup a = none := by
        cases q : K.lookup a with
        | none => rfl
        | some o => exact (hk ⟨o, q⟩).elim
      refine main (fun b => if b = a then some (.frz { cls := .type "list", data := .seq vs.toArray } (.lst (ns.map V.int))) else none) ?_ (Or.inl (Or.inr ⟨_, if_pos rfl⟩)) ?_ ?_
      · intro b
        by_cases e : b = a
        · exact Or.inr ⟨_, _, if_pos e⟩
        · exact Or.inl (if_neg e)
      · intro b u z
        by_cases e : b = a
        · subst e
          have z' := Option.some.inj ((if_pos rfl).symm.trans z)
          subst z'
          exact ⟨ha, by rw [List.length_map]; exact hl, vs, _, vals, ha⟩
        · exact nomatch ((if_neg e).symm.trans z : (none : Option HO) = some u)
      · intro b z
        by_cases e : b = a
        · exact ⟨e, hk0⟩
        · exact (z (if_neg e)).elim
  intro H hO hS hok hA
  have free : ∀ {b : Addr} {o : Obj} {es : Array DictEntry} {ep : Nat}, s₁.heap.get? b = some o → o.data = .dict es ep → H b = none := by
    intro b o es ep e d
    cases q : H b with
    | none => rfl
    | some u =>
      have eb := (hA b (by rw [q]; exact fun z => nomatch z)).1
      subst eb
      have eo := Option.some.inj (ha.symm.trans e)
      subst eo
      exact nomatch (show Data.seq vs.toArray _ = Data.dict es ep from d)
  have space : ∀ {b : Addr} {m : Str → Option Value}, s₁.heap.Ns b m → (hidT s₁.heap H).Ns b m := by
    rintro b m ⟨o, es, ep, e, d, r⟩
    exact ⟨o, es, ep, hidT_get e (free e d), d, r⟩
  have inB : K.In (hidT s₁.heap H) := by
    intro b o e
    refine hidT_get (KX b o e) ?_
    cases q : H b with
    | none => rfl
    | some u =>
      obtain ⟨eb, n⟩ := hA b (by rw [q]; exact fun z => nomatch z)
      subst eb
      exact nomatch (n.symm.trans e)
  have md : Mod K mg (hidT s₁.heap H) := ⟨inB, space hns, ⟨mb, space hb, hbb⟩, by obtain ⟨mc, h1, h2⟩ := hlim; exact ⟨mc, space h1, h2⟩⟩
  have en : Env0 P w K mg (hidT s₁.heap H) callerA [] s₁ H :=
    { frames := rfl, mod := md, bs := fun b o e => of_hidT e, bsz := Nat.le_of_eq (hidT_size _ _), funs := trivial, frf := fun b z => (List.not_mem_nil z).elim, hok := hok, bare := .of_eq hgen }
  refine codeAny_mono ((F _ inB (space hns)).goes callerA [] s₁ H ⟨[.ref a], []⟩ [.ref a] [.ref a] _ _ rfl hr en (hbind s₁ (.ref a)) (.cons rfl .nil) (hsp H hO hS)) ?_
  rintro (er | fl) s' h
  · exact (show False from h).elim
  · match fl, h with
    | .ret u, h =>
      obtain ⟨v, H', os, bare, un, hok', rr, q⟩ := h
      have ev : v = .bl true := q
      subst ev
      have eu : u = Value.bool true := rr
      subst eu
      refine ⟨rfl, OldK.of_keep ?_, os, bare⟩
      intro b o e
      rcases hO b with z | ⟨ob, xs, z⟩
      · exact un.keep b o e z (fun z => (List.not_mem_nil z).elim) (fun z => (List.not_mem_nil z).elim)
      · have e1 := (hok b _ z).1
        have e2 := (hok' b _ (un.frzs b ob _ z)).1
        exact e2.trans (e1.symm.trans e)
theorem walk_ofG {l : PySem.W.OpenLaw} {n k : Nat} {q : Program} {loose : List Str} {XP : (Str → Option Value) → Heap → Prop} {YP : World → Heap → Prop} {d : DefRec} {K : Params → PySem.W.Frag} {sp : PySem.W.Frag → Sp} {x : Str}
    (hn : l.most = some n) (hn2 : n ≤ sizeLine) (hdf : d.params.defaults = []) (hr : Room k callerA) (hY : ∀ (w : World) (h : Heap), YP w h → (K w.params).In h)
    (F : ∀ (w : World) (mg : Str → Option Value) (fa : Addr) (h : Heap), (K w.params).In h → h.Ns mainGlobals mg → mg d.name = some (.ref fa) →
      ∃ fd : FuncData, (∀ (s : Shared) (u : Value), BindsTo s fd ⟨[u], []⟩ [(x, u)]) ∧ ∀ base : Heap, (K w.params).In base → base.Ns mainGlobals mg → FnG l.prog w (K w.params) mg base CX0 k fa fd [x] (sp (K w.params)))
    (hsp : ∀ (K : PySem.W.Frag) (H : Hp) (a : Addr) (ns : List Int), ns.length ≤ n → Only H → SqL K H a (ns.map V.int) → sp K [.ref a] H (fun v _ => v = .bl true) fun _ _ _ => False) :
    PySem.W.WalkO q loose XP YP l.row.toRowW d [] (fun f vs => PySem.call f vs) := by
  refine Att.attach_call hn hdf ?_
  intro w s₀ s₁ mg mb fa o pm cd doc a vs ns G Y ho hd hcd hmg hobj hints hlen hgen
  obtain ⟨fd, hb, hF⟩ := F w mg fa _ (hY w _ Y) G.T.g hmg
  exact law_callG (hY w _ Y) G.T.g G.T.b G.T.builtins G.T.nolimit hgen hobj hints (Nat.le_trans hlen hn2) hr hF hb fun H hO hS => hsp _ H a ns hlen hO hS

/-! ### data -/
mutual
/-- x stands for the datum d: lists, tuples, empty dicts -/
inductive Dt (K : PySem.W.Frag) (H : Hp) : V → PyData → Prop
  | non : Dt K H .non .none
  | bl (b : Bool) : Dt K H (.bl b) (.bool b)
  | int (i : Int) : Dt K H (.int i) (.int i)
  | str (x : Str) : Dt K H (.str x) (.str x)
  | lst {a : Addr} {xs : List V} {ds : List PyData} : H a = some (.lst xs) → Dts K H xs ds → Dt K H (.ref a) (.list ds)
  | tup {a : Addr} {xs : List V} {ds : List PyData} : H a = some (.tup xs) → Dts K H xs ds → Dt K H (.ref a) (.tuple ds)
  | dct {a : Addr} : H a = some (.dK []) → Dt K H (.ref a) (.dict [])
inductive Dts (K : PySem.W.Frag) (H : Hp) : List V → List PyData → Prop
  | nil : Dts K H [] []
  | cons {v : V} {vs : List V} {d : PyData} {ds : List PyData} : Dt K H v d → Dts K H vs ds → Dts K H (v :: vs) (d :: ds)
end
section
variable {X : Cx} {pins : List (Addr × Obj)} {σ : L2.St} {H : Hp} {s : Shared}
theorem Dt.obL {K : PySem.W.Frag} {a : Addr} {xs : List V} (I : Inv X pins σ H s) (h : H a = some (.lst xs)) : ∃ (its : List Value) (n : Nat), Vals xs its ∧ s.heap.get? a = some { cls := .type "list", data := .seq its.toArray n } :=
  let ⟨_, its, n, rv, ho⟩ := (show ObjOk X.prog X.w H s.heap a (.lst xs) from I.hok _ _ h)
  ⟨its, n, rv, ho⟩
theorem Dt.obT {a : Addr} {xs : List V} (I : Inv X pins σ H s) (h : H a = some (.tup xs)) : ∃ (its : List Value) (o : Obj) (n : Nat), Vals xs its ∧ s.heap.get? a = some o ∧ o.cls = .type "tuple" ∧ o.data = .seq its.toArray n :=
  let ⟨_, its, rv, o, h1, h2, n, h3⟩ := (show ObjOk X.prog X.w H s.heap a (.tup xs) from I.hok _ _ h)
  ⟨its, o, n, rv, h1, h2, h3⟩
theorem Dt.obD {a : Addr} (I : Inv X pins σ H s) (h : H a = some (.dK [])) : ∃ (o : Obj) (n : Nat), s.heap.get? a = some o ∧ o.cls = .type "dict" ∧ o.data = .dict #[] n ∧ (a == sysModules) = false := by
  obtain ⟨_, hsys, vs, hv, o, es, ep, h1, h2, h3, _, h4, _⟩ := (show ObjOk X.prog X.w H s.heap a (.dK []) from I.hok _ _ h)
  cases hv
  have e : es = #[] := by
    cases es with
    | mk l => 
      have z : l = [] := by
        cases h4
        rfl
      rw [z]
  subst e
  exact ⟨o, ep, h1, h2.1, h3, hsys⟩
mutual
theorem Dt.reads (I : Inv X pins σ H s) : ∀ (d : PyData) (v : V) (u : Value), Dt X.K H v d → RelV v u → ∃ as, Reads s.heap u d as
  | .none, _, _, h, r => by
    cases h
    cases r
    exact ⟨_, .none⟩
  | .bool b, _, _, h, r => by
    cases h
    cases r
    exact ⟨_, .bool b⟩
  | .int i, _, _, h, r => by
    cases h
    obtain ⟨t, rfl⟩ := r
    exact ⟨_, .int i t⟩
  | .str x, _, _, h, r => by
    cases h
    obtain ⟨t, rfl⟩ := r
    exact ⟨_, .str x t⟩
  | .list ds, v, _, h, r => by
    cases h with
    | lst hs ha =>
      cases r
      obtain ⟨its, n, rv, ho⟩ := Dt.obL (K := X.K) I hs
      obtain ⟨as, hr⟩ := Dt.readsAll I ds _ its ha rv
      exact ⟨_, .list ho rfl rfl hr⟩
  | .tuple ds, _, _, h, r => by
    cases h with
    | tup hs ha =>
      cases r
      obtain ⟨its, o, n, rv, h1, h2, h3⟩ := Dt.obT I hs
      obtain ⟨as, hr⟩ := Dt.readsAll I ds _ its ha rv
      exact ⟨_, .tuple h1 h2 h3 hr⟩
  | .dict kvs, _, _, h, r => by
    cases h with
    | dct hs =>
      cases r
      obtain ⟨o, n, h1, h2, h3, _⟩ := Dt.obD I hs
      exact ⟨_, .dict h1 h2 h3 .nil .nil⟩
theorem Dt.readsAll (I : Inv X pins σ H s) : ∀ (ds : List PyData) (vs : List V) (us : List Value), Dts X.K H vs ds → Vals vs us → ∃ as, ReadsAll s.heap us ds as
  | [], _, _, h, r => by
    cases h
    cases r
    exact ⟨_, .nil⟩
  | d :: ds, _, _, h, r => by
    cases h with
    | cons h1 h2 =>
      cases r with
      | cons r1 r2 =>
        obtain ⟨as, q1⟩ := Dt.reads I d _ _ h1 r1
        obtain ⟨bs, q2⟩ := Dt.readsAll I ds _ _ h2 r2
        exact ⟨_, .cons q1 q2⟩
end
theorem dictText_nil : dictText [] = ("{}" : Str) := by decide +kernel
mutual
theorem Dt.rep (I : Inv X pins σ H s) : ∀ (d : PyData) (v : V) (u : Value), Dt X.K H v d → RelV v u → d.showable = true → d.shown.length ≤ sizeLine → ∃ bs, ReadAtMost s.heap d.depth bs ∧ ReprK X.prog X.w bs s.heap d.depth u d.shown
  | .none, _, _, h, r, _, _ => by
    cases h
    cases r
    exact ⟨[], (fun _ z => nomatch z), by simp only [PyData.shown]; exact .of_is ReprIs.none _ _ _⟩
  | .bool b, _, _, h, r, _, _ => by
    cases h
    cases r
    exact ⟨[], (fun _ z => nomatch z), by simp only [PyData.shown]; exact .of_is (ReprIs.bool b) _ _ _⟩
  | .int i, _, _, h, r, hs, _ => by
    cases h
    obtain ⟨t, rfl⟩ := r
    exact ⟨[], (fun _ z => nomatch z), by simp only [PyData.shown]; exact .of_is (ReprIs.int t (by simpa [PyData.showable] using hs)) _ _ _⟩
  | .str x, _, _, h, r, _, hz => by
    cases h
    obtain ⟨t, rfl⟩ := r
    exact ⟨[], (fun _ z => nomatch z), by simp only [PyData.shown]; exact .of_is (ReprIs.str x t (by simpa only [PyData.shown] using hz)) _ _ _⟩
  | .list ds, v, u, h, r, hs, hz => by
    obtain ⟨as0, whole⟩ := Dt.reads I (.list ds) v u h r
    have hz' : (listText (PyData.shownAll ds)).length ≤ sizeLine := by simpa only [PyData.shown] using hz
    cases h with
    | lst hh ha =>
      cases r
      obtain ⟨its, n, rv, ho⟩ := Dt.obL (K := X.K) I hh
      obtain ⟨bs, hb, hk⟩ := Dt.repAll I ds _ its ha rv (by simpa [PyData.showable] using hs) fun t ht => Nat.le_trans (listText_mem_le ht) hz'
      have out := not_mem_of_deeper whole (n := PyData.depthAll ds) (by simp only [PyData.depth]; omega) hb
      refine ⟨_ :: bs, ReadAtMost.cons whole (by simp only [PyData.depth]; omega) hb, ?_⟩
      simp only [PyData.depth, PyData.shown]
      cases its with
      | nil =>
        cases rv
        cases ha
        simp only [PyData.shownAll, listText_nil]
        exact ReprK.listEmpty ho rfl rfl
      | cons x l => exact ReprK.list ho rfl rfl out (by simpa using hk.length_eq) fun i y e => hk.item i y (by simpa using e)
  | .tuple ds, v, u, h, r, hs, hz => by
    obtain ⟨as0, whole⟩ := Dt.reads I (.tuple ds) v u h r
    have hz' : (tupleText (PyData.shownAll ds)).length ≤ sizeLine := by simpa only [PyData.shown] using hz
    cases h with
    | tup hh ha =>
      cases r
      obtain ⟨its, o, n, rv, h1, h2, h3⟩ := Dt.obT I hh
      obtain ⟨bs, hb, hk⟩ := Dt.repAll I ds _ its ha rv (by simpa [PyData.showable] using hs) fun t ht => Nat.le_trans (tupleText_mem_le ht) hz'
      have out := not_mem_of_deeper whole (n := PyData.depthAll ds) (by simp only [PyData.depth]; omega) hb
      refine ⟨_ :: bs, ReadAtMost.cons whole (by simp only [PyData.depth]; omega) hb, ?_⟩
      simp only [PyData.depth, PyData.shown]
      exact ReprK.tuple h1 h2 h3 out hk
  | .dict kvs, v, u, h, r, hs, hz => by
    obtain ⟨as0, whole⟩ := Dt.reads I (.dict kvs) v u h r
    cases h with
    | dct hh =>
      cases r
      obtain ⟨o, n, h1, h2, h3, h4⟩ := Dt.obD I hh
      refine ⟨[_], ReadAtMost.cons whole (Nat.le_refl _) (fun _ z => nomatch z), ?_⟩
      simp only [PyData.depth, PyData.shown, PyData.shownKv]
      exact ReprK.dict h1 h2 h3 h4 (by simp) .nil
theorem Dt.repAll (I : Inv X pins σ H s) : ∀ (ds : List PyData) (vs : List V) (us : List Value), Dts X.K H vs ds → Vals vs us → PyData.showableAll ds = true → (∀ t ∈ PyData.shownAll ds, t.length ≤ sizeLine) →
    ∃ bs, ReadAtMost s.heap (PyData.depthAll ds) bs ∧ ReprAllK X.prog X.w bs s.heap (PyData.depthAll ds) us (PyData.shownAll ds)
  | [], _, _, h, r, _, _ => by
    cases h
    cases r
    exact ⟨[], (fun _ z => nomatch z), by simp only [PyData.shownAll]; exact .nil⟩
  | d :: ds, _, _, h, r, hs, hz => by
    have hs' : d.showable = true ∧ PyData.showableAll ds = true := by simpa [PyData.showableAll] using hs
    cases h with
    | cons h1 h2 =>
      cases r with
      | cons r1 r2 =>
        obtain ⟨b1, hb1, k1⟩ := Dt.rep I d _ _ h1 r1 hs'.1 (hz _ (by simp [PyData.shownAll]))
        obtain ⟨b2, hb2, k2⟩ := Dt.repAll I ds _ _ h2 r2 hs'.2 fun t ht => hz t (by simp [PyData.shownAll, ht])
        refine ⟨b1 ++ b2, fun b hm => ?_, ?_⟩
        · rcases List.mem_append.mp hm with z | z
          · obtain ⟨d', as', r', q⟩ := hb1 b z
            exact ⟨d', as', r', Nat.le_trans q (by simp only [PyData.depthAll]; omega)⟩
          · obtain ⟨d', as', r', q⟩ := hb2 b z
            exact ⟨d', as', r', Nat.le_trans q (by simp only [PyData.depthAll]; omega)⟩
        · simp only [PyData.depthAll, PyData.shownAll]
          exact .cons ((k1.more fun b z => List.mem_append_left _ z).level_le (by omega)) (k2.more_le (fun b z => List.mem_append_right _ z) (by omega))
end
/-- repr(x), x data -/
def rRepD (K : PySem.W.Frag) : List V → Hp → VK → Prop := fun xs H Q => ∃ x d, xs = [x] ∧ Dt K H x d ∧ d.showable = true ∧ d.shown.length ≤ sizeLine ∧ d.depth ≤ 60 ∧ Q (.str d.shown) H
theorem call_repD (hg : X.A.guards = some []) (hu : X.A.units + 64 < cLine) : CallR X (.builtin "repr") (rRepD X.K) := by
  intro pins s σ H xs us Q I r h
  obtain ⟨x, d, rfl, hd, hs, hz, hn, q⟩ := h
  obtain ⟨u, rfl, r1⟩ := vals1 r
  have back : ∀ (h' : Heap) (t : Tok) (tk : Nat), (∀ b o, s.heap.get? b = some o → h'.get? b = some o) → EP X pins σ Q (.str d.shown t) { s with heap := h', toks := tk } := fun h' t tk k =>
    ⟨.str d.shown, H, I.kept k, ⟨t, rfl⟩, q⟩
  cases d with
  | none =>
    cases hd
    cases r1
    exact PySem.P.repr_of_none (back _ _ _ fun _ _ e => e)
  | bool b =>
    cases hd
    cases r1
    exact PySem.P.repr_of_bool (back _ _ _ fun _ _ e => e)
  | int i =>
    cases hd
    obtain ⟨t, rfl⟩ := r1
    exact PySem.P.repr_of_int (by simpa [PyData.showable] using hs) (back _ _ _ fun _ _ e => e)
  | str y =>
    cases hd
    obtain ⟨t, rfl⟩ := r1
    exact PySem.P.repr_of_str (back _ _ _ fun _ _ e => e) (by simpa only [PyData.shown] using hz)
  | list ds =>
    obtain ⟨as0, whole⟩ := Dt.reads I (.list ds) x u hd r1
    have hz' : (listText (PyData.shownAll ds)).length ≤ sizeLine := by simpa only [PyData.shown] using hz
    cases hd with
    | lst hh ha =>
      cases r1
      obtain ⟨its, n, rv, ho⟩ := Dt.obL (K := X.K) I hh
      obtain ⟨bs, hb, hk⟩ := Dt.repAll I ds _ its ha rv (by simpa [PyData.showable] using hs) fun t ht => Nat.le_trans (listText_mem_le ht) hz'
      have out := not_mem_of_deeper whole (n := PyData.depthAll ds) (by simp only [PyData.depth]; omega) hb
      simp only [PyData.depth] at hn
      refine call_repr_slot (by omega) ⟨_, ho, rfl⟩ F.slot_list_repr.toG ?_
      cases its with
      | nil =>
        cases rv
        cases ha
        simp only [PyData.shown, PyData.shownAll, listText_nil] at back
        exact call_list_repr_empty ⟨_, ho, rfl⟩ ho rfl ⟨_, _, rfl, back s.heap _ _ fun _ _ e => e⟩
      | cons y l =>
        simp only [PyData.shown] at back
        exact call_list_reprK ho rfl rfl out (by simpa using hk.length_eq) (fun i y e => hk.item i y (by simpa using e)) hg (fun b _ => Clear.nil b) (by show X.A.units + 1 + _ < _; omega) (fun _ _ e => e) (fun h' u tk k => ⟨_, _, rfl, back h' u tk k⟩) hz'
  | tuple ds =>
    obtain ⟨as0, whole⟩ := Dt.reads I (.tuple ds) x u hd r1
    have hz' : (tupleText (PyData.shownAll ds)).length ≤ sizeLine := by simpa only [PyData.shown] using hz
    cases hd with
    | tup hh ha =>
      cases r1
      obtain ⟨its, o, n, rv, h1, h2, h3⟩ := Dt.obT I hh
      obtain ⟨bs, hb, hk⟩ := Dt.repAll I ds _ its ha rv (by simpa [PyData.showable] using hs) fun t ht => Nat.le_trans (tupleText_mem_le ht) hz'
      have out := not_mem_of_deeper whole (n := PyData.depthAll ds) (by simp only [PyData.depth]; omega) hb
      simp only [PyData.depth] at hn
      simp only [PyData.shown] at back
      exact call_repr_slot (by omega) ⟨o, h1, h2⟩ F.slot_tuple_repr (call_tuple_reprK h1 h2 h3 out hk hg (fun b _ => Clear.nil b) (by show X.A.units + 1 + _ < _; omega) (fun _ _ e => e) (fun h' u tk k => ⟨_, _, rfl, back h' u tk k⟩) hz')
  | dict kvs =>
    cases hd with
    | dct hh =>
      cases r1
      obtain ⟨o, n, h1, h2, h3, h4⟩ := Dt.obD I hh
      simp only [PyData.shown, PyData.shownKv] at back hz
      exact call_repr_slot (by omega) ⟨o, h1, h2⟩ F.slot_dict_repr (call_dict_reprK (as := []) (d := 0) h1 h2 h3 h4 (by simp) .nil hg (fun b _ => Clear.nil b) (by show X.A.units + 1 + _ < _; omega) (fun _ _ e => e) (fun h' u tk k => ⟨_, _, rfl, back h' u tk k⟩) hz)
end
end GL

namespace GL
open PySem PySem.Spec PyProof.Rows L2
/-! ### a def of the text, ready to be called -/
structure Use (P : Program) (w : World) (K : PySem.W.Frag) (mg : Str → Option Value) (base : Heap) (x : Str) (ps : List Str) (sp : Sp) (k : Nat) : Prop where
  ex : ∃ f fd, FnOk P w K mg base CX0 k f fd ps sp ∧ mg x = some (.ref f) ∧ PySem.W.keepIn K (.ref f) = true ∧ Binds K fd ps []
structure UseG (P : Program) (w : World) (K : PySem.W.Frag) (mg : Str → Option Value) (base : Heap) (x : Str) (ps : List Str) (sp : Sp) (k : Nat) : Prop where
  ex : ∃ f fd, FnG P w K mg base CX0 k f fd ps sp ∧ mg x = some (.ref f) ∧ PySem.W.keepIn K (.ref f) = true ∧ Binds K fd ps []
section
variable {X : Cx} {ps : List Str} {sp : Sp} {x : Str} {e : Expr} {es : List Expr} {t : TA} {p pos : Pos} {k : Nat}
theorem pe_use (U : Use X.prog X.w X.K X.mg X.base x ps sp k) (hr : Room k X.A) (hg : Gl X x) (ha : PA X (e :: es) t)
    (hdb : (x == ("__debug__" : Str)) = false := by decide) (he : starEach (e :: es) X.env = (false, eval e X.env) :: starEach es X.env := by rfl) (hpl : (backTo pos (starEach es X.env)).any (·.1) = false := by rfl) :
    PE X (.Call (.Name x p) (e :: es) [] pos) (tCall sp [] E0 t) := by
  obtain ⟨f, fd, F, hm, hk, hb⟩ := U.ex
  exact pe_call F hr hg hm hk hb .nil pass0 ha hdb he hpl
theorem pe_useG (U : UseG X.prog X.w X.K X.mg X.base x ps sp k) (hgd : X.A.guards = some []) (hr : Room k X.A) (hg : Gl X x) (ha : PA X (e :: es) t)
    (hdb : (x == ("__debug__" : Str)) = false := by decide) (he : starEach (e :: es) X.env = (false, eval e X.env) :: starEach es X.env := by rfl) (hpl : (backTo pos (starEach es X.env)).any (·.1) = false := by rfl) :
    PE X (.Call (.Name x p) (e :: es) [] pos) (tCall sp [] E0 t) := by
  obtain ⟨f, fd, F, hm, hk, hb⟩ := U.ex
  exact pe_callG F hgd hr hg hm hk hb .nil pass0 ha hdb he hpl
/-- f(k = v, ..), nothing by place -/
theorem pe_kws {CX : CXT} {f : Addr} {fd : FuncData} {ks : List Str} {E : XK} {kws : List Keyword} {tk : TA} {g : List Value → List Value → List Value} {gV : List V → List V → List V}
    (F : FnOk X.prog X.w X.K X.mg X.base CX k f fd ps sp) (hr : Room k X.A) (hg : Gl X x) (hm : X.mg x = some (.ref f)) (hk : PySem.W.keepIn X.K (.ref f) = true) (hb : KBinds X.K fd ps ks g gV) (hx : Passes CX X E) (hkw : PK X kws tk)
    (hall : (backToKw pos (keywordEach kws X.env)).all (·.1.isSome) = true := by rfl) (hks : (backToKw pos (keywordEach kws X.env)).filterMap (·.1) = ks := by rfl) (hdb : (x == ("__debug__" : Str)) = false := by decide)
    (hpl : ((backTo pos (starEach [] X.env)).any (·.1) || (backToKw pos (keywordEach kws X.env)).any (·.1.isNone)) = false := by rfl) :
    PE X (.Call (.Name x p) [] kws pos) (tCallK sp gV E tNil tk) :=
  ⟨fun pins s σ H Q I h => wpAny_Call_Name_kw (ld_glob I hg hm (PySem.W.callWith_KW0 (h₀ := X.base) I.ok.mod.kin hk hall (thn (hkw.run pos pins s σ H _ I h) fun ws s2 hh => by
    obtain ⟨zs, H2, I2, rz, q2⟩ := hh
    refine ⟨I2.kIn, ?_⟩
    rw [hks]
    exact run_fnk F hr hb hx I2 .nil rz q2) hpl) hdb)⟩
end
/-! ### rules -/
section
variable {X : Cx} {pos : Pos}
def CPowW (i j : Int) : Prop := 0 ≤ j ∧ (Builtin.Int.intBits i : Int) * j ≤ 2 ^ 27
theorem op_powW : OpR X (binaryOp .Pow) (rI CPowW fun i j => .int (i ^ j.toNat)) := opI fun _ _ _ _ _ _ _ hc q => pow_int hc.1 hc.2 q
/-- xs != ys, ys an empty list -/
def rNeNil (K : PySem.W.Frag) : R2 := fun x y H Q => ∃ a b xs, x = .ref a ∧ y = .ref b ∧ SqL K H a xs ∧ SqL K H b [] ∧ Q (.bl (!xs.isEmpty)) H
theorem op_neNil (hu : X.A.units + 64 < cLine) : OpR X (compareOp .NotEq) (rNeNil X.K) := by
  intro pins s σ H x y v u Q I rx ry h
  obtain ⟨a, b, xs, rfl, rfl, ha, hb, q⟩ := h
  cases rx
  cases ry
  obtain ⟨is, ra, pa, _⟩ := I.list ha
  obtain ⟨js, rb, pb, _⟩ := I.list hb
  cases rb
  cases xs with
  | nil =>
    cases ra
    exact (SeqAt.RcNeAt.lists (e := fun _ => true) pa.isList pb.isList rfl (by omega) (fun j h1 => absurd h1 (by simp))) _ _ _ _ ⟨.bl _, H, I, rfl, q⟩
  | cons z zs =>
    cases ra with
    | cons r1 r2 => exact (SeqAt.RcNeAt.lists_lengths pa.isList pb.isList (by simp) (by omega)) _ _ _ _ ⟨.bl _, H, I, rfl, q⟩
/-- xs[::0 - 1] -/
theorem pe_revB {e : Expr} {te : TE} {k k2 : Nat} {p1 p2 p3 p4 : Pos} (he : PE X e te) : PE X (.Subscript e (.Slice none none (some (.BinOp (.Constant (.int 0) k p1) .Sub (.Constant (.int 1) k2 p4) p2)) p3) pos) (tRevL X.K te) := by
  refine ⟨fun pins s σ H Q I h => Subscript_ (thn (he.run pins s σ H _ I h) ?_)⟩
  rintro v s1 ⟨x, H1, I1, r1, a, xs, rfl, hx, q⟩
  cases r1
  have back : PO X (some (.BinOp (.Constant (.int 0) k p1) .Sub (.Constant (.int 1) k2 p4) p2)) (tPart (tOp (rI0 fun i j => .int (i - j)) (tC (.int 0)) (tC (.int 1)))) := po_some (pe_op op_sub pe_int pe_int)
  refine wpAny_Slice (thn (po_none.run pins s1 σ H1 (fun o H2 => o = none ∧ H2 = H1) I1 ⟨rfl, rfl⟩) ?_)
  rintro vl s2 ⟨l, H2, I2, pl, rfl, rfl⟩
  refine thn (po_none.run pins s2 σ H2 (fun o H3 => o = none ∧ H3 = H2) I2 ⟨rfl, rfl⟩) ?_
  rintro vu s3 ⟨u, H3, I3, pu, rfl, rfl⟩
  refine thn (back.run pins s3 σ H3 (fun o H4 => o = some (-1) ∧ H4 = H3) I3 ⟨0, 1, rfl, rfl, -1, rfl, rfl, rfl⟩) ?_
  rintro vs s4 ⟨o, H4, I4, ps, rfl, rfl⟩
  have I5 : Inv X pins σ H4 { s4 with heap := s4.heap.push { cls := .type "slice", data := .fields #[vl, vu, vs] } } := I4.kept (t' := s4.toks) fun b ob q => Heap.get?_push_of_some _ q
  obtain ⟨its, r, ht, hz⟩ := I5.list hx
  have cnt := r.length
  refine tail_any (ops := [.ref a, .ref s4.heap.objs.size]) ht.isList.typeIs PySem.slot_list_getitem.lookup (wpAny_getItem_list_slice ht.isList (Heap.IsSliceOf.new _ vl vu vs) pl pu ps (by decide) ?_ (by rw [List.size_toArray]; omega)) (by with_unfolding_all rfl)
  rw [PySem.W.krv_pick]
  exact ⟨.ref _, _, I5.laid (t' := s4.toks) (o := .lst xs.reverse) (fun b ob q => Heap.get?_push_of_some _ q) (Nat.le_refl _) ⟨by rw [List.length_reverse]; exact hz, _, 0, r.reverse, Heap.get?_push_size _ rfl⟩, rfl, q _ (I5.hok.fresh (Nat.le_refl _))⟩
end
end GL

namespace GL
open PySem PySem.Spec PyProof.Rows L2
theorem same_new {p : Addr} {H : Hp} {o : HO} (h : H p = none) : Same H (upd H p o) := fun b u e => by rw [upd_ne (ne_of_none e h)]; exact e
mutual
theorem Dt.same {K : PySem.W.Frag} {H H' : Hp} (s : Same H H') : ∀ (d : PyData) (v : V), Dt K H v d → Dt K H' v d
  | .none, _, h => by cases h; exact .non
  | .bool b, _, h => by cases h; exact .bl b
  | .int i, _, h => by cases h; exact .int i
  | .str x, _, h => by cases h; exact .str x
  | .list ds, _, h => by
    cases h with
    | lst e a => exact .lst (s _ _ e) (Dts.same s ds _ a)
  | .tuple ds, _, h => by
    cases h with
    | tup e a => exact .tup (s _ _ e) (Dts.same s ds _ a)
  | .dict kvs, _, h => by
    cases h with
    | dct e => exact .dct (s _ _ e)
theorem Dts.same {K : PySem.W.Frag} {H H' : Hp} (s : Same H H') : ∀ (ds : List PyData) (vs : List V), Dts K H vs ds → Dts K H' vs ds
  | [], _, h => by cases h; exact .nil
  | d :: ds, _, h => by
    cases h with
    | cons a b => exact .cons (Dt.same s d _ a) (Dts.same s ds _ b)
end
theorem Dts.length {K : PySem.W.Frag} {H : Hp} : ∀ {vs : List V} {ds : List PyData}, Dts K H vs ds → vs.length = ds.length
  | _, _, .nil => rfl
  | _, _, .cons _ b => congrArg (· + 1) b.length
theorem Dts.get {K : PySem.W.Frag} {H : Hp} : ∀ {vs : List V} {ds : List PyData} {i : Nat} {v : V}, Dts K H vs ds → vs[i]? = some v → ∃ d, ds[i]? = some d ∧ Dt K H v d
  | _, _, i, v, .nil, e => by simp at e
  | _, _, 0, v, .cons a _, e => by
    cases e
    exact ⟨_, rfl, a⟩
  | _, _, i + 1, v, .cons _ b, e => b.get (i := i) (v := v) e
theorem Dts.append {K : PySem.W.Frag} {H : Hp} : ∀ {vs ws : List V} {ds es : List PyData}, Dts K H vs ds → Dts K H ws es → Dts K H (vs ++ ws) (ds ++ es)
  | _, _, _, _, .nil, z => z
  | _, _, _, _, .cons a b, z => .cons a (b.append z)
def tyOf : PyData → String
  | .none => "NoneType" | .bool _ => "bool" | .int _ => "int" | .str _ => "str" | .list _ => "list" | .tuple _ => "tuple" | .dict _ => "dict"
theorem Dt.ty {K : PySem.W.Frag} {H : Hp} {x : V} {d : PyData} (h : Dt K H x d) : TyX K H x (.type (tyOf d)) := by
  cases h with
  | non => exact .base .non
  | bl b => exact .base (.bl b)
  | int i => exact .base (.int i)
  | str x => exact .base (.str x)
  | lst e _ => exact .base (.lst e)
  | tup e _ => exact .base (.tup e)
  | dct e => exact .base (.dK e)
def isInt : PyData → Bool
  | .bool _ => true | .int _ => true | _ => false
def isBool : PyData → Bool
  | .bool _ => true | _ => false
def isList : PyData → Bool
  | .list _ => true | _ => false
theorem kit_int {K : PySem.W.Frag} (d : PyData) : PySem.W.kitOne K (.type (tyOf d)) (.type "int") = some (isInt d) := by
  cases d with
  | none => exact kit_ty (show kitB "NoneType" "int" = some false by decide +kernel)
  | bool _ => exact kit_ty (show kitB "bool" "int" = some true by decide +kernel)
  | int _ => exact kit_ty (show kitB "int" "int" = some true by decide +kernel)
  | str _ => exact kit_ty (show kitB "str" "int" = some false by decide +kernel)
  | list _ => exact kit_ty (show kitB "list" "int" = some false by decide +kernel)
  | tuple _ => exact kit_ty (show kitB "tuple" "int" = some false by decide +kernel)
  | dict _ => exact kit_ty (show kitB "dict" "int" = some false by decide +kernel)
theorem kit_bool {K : PySem.W.Frag} (d : PyData) : PySem.W.kitOne K (.type (tyOf d)) (.type "bool") = some (isBool d) := by
  cases d with
  | none => exact kit_ty (show kitB "NoneType" "bool" = some false by decide +kernel)
  | bool _ => exact kit_ty (show kitB "bool" "bool" = some true by decide +kernel)
  | int _ => exact kit_ty (show kitB "int" "bool" = some false by decide +kernel)
  | str _ => exact kit_ty (show kitB "str" "bool" = some false by decide +kernel)
  | list _ => exact kit_ty (show kitB "list" "bool" = some false by decide +kernel)
  | tuple _ => exact kit_ty (show kitB "tuple" "bool" = some false by decide +kernel)
  | dict _ => exact kit_ty (show kitB "dict" "bool" = some false by decide +kernel)
theorem kit_list {K : PySem.W.Frag} (d : PyData) : PySem.W.kitOne K (.type (tyOf d)) (.type "list") = some (isList d) := by
  cases d with
  | none => exact kit_ty (show kitB "NoneType" "list" = some false by decide +kernel)
  | bool _ => exact kit_ty (show kitB "bool" "list" = some false by decide +kernel)
  | int _ => exact kit_ty (show kitB "int" "list" = some false by decide +kernel)
  | str _ => exact kit_ty (show kitB "str" "list" = some false by decide +kernel)
  | list _ => exact kit_ty (show kitB "list" "list" = some true by decide +kernel)
  | tuple _ => exact kit_ty (show kitB "tuple" "list" = some false by decide +kernel)
  | dict _ => exact kit_ty (show kitB "dict" "list" = some false by decide +kernel)
theorem yes_of {σ : L2.St} {H : Hp} {A B : Bool → Hp → Prop} (h : A true H) : tYes σ H (fun b H' => if b = true then A b H' else B b H') := by
  show (if true = true then A true H else B true H)
  exact iteT h
end GL

/-! Data whose repr is known to fit: leaves, and lists and tuples of at most fifty things, three deep. -/
namespace GL
open PySem PySem.Spec PyProof.Rows L2
def Leaf : PyData → Prop
  | .none => True
  | .bool _ => True
  | .int i => i.natAbs < 2 ^ 100
  | .str x => (reprText x).length ≤ 110
  | .dict kvs => kvs = []
  | _ => False
def Nice : Nat → PyData → Prop
  | 0, d => Leaf d
  | n + 1, d => Leaf d ∨ ∃ ds, (d = .list ds ∨ d = .tuple ds) ∧ ds.length ≤ 50 ∧ ∀ e ∈ ds, Nice n e
theorem Nice.leaf {n : Nat} {d : PyData} (h : Leaf d) : Nice n d := by
  cases n with
  | zero => exact h
  | succ n => exact .inl h
theorem Nice.up {n : Nat} {d : PyData} (h : Nice n d) : Nice (n + 1) d := by
  induction n generalizing d with
  | zero => exact .inl h
  | succ n ih =>
    rcases h with h | ⟨ds, e, l, a⟩
    · exact .inl h
    · exact .inr ⟨ds, e, l, fun x hx => ih (a x hx)⟩
theorem Nice.list {n : Nat} {ds : List PyData} (l : ds.length ≤ 50) (a : ∀ e ∈ ds, Nice n e) : Nice (n + 1) (.list ds) := .inr ⟨ds, .inl rfl, l, a⟩
theorem Nice.tuple {n : Nat} {ds : List PyData} (l : ds.length ≤ 50) (a : ∀ e ∈ ds, Nice n e) : Nice (n + 1) (.tuple ds) := .inr ⟨ds, .inr rfl, l, a⟩
theorem textFrom_le : ∀ (ts : List Str) (k : Nat) (acc : Str), (textFrom k acc ts).length ≤ acc.length + piled ts
  | [], k, acc => Nat.le_refl _
  | t :: r, k, acc => by
    have ih := textFrom_le r (k + 1) (acc ++ (if k > 0 then ", " else "" : String) ++ t)
    rw [strLen_append, strLen_append] at ih
    rw [piled_cons]
    show (textFrom (k + 1) (acc ++ (if k > 0 then ", " else "" : String) ++ t) r).length ≤ _
    have e : (Str.ofString (if k > 0 then ", " else "" : String)).length ≤ 2 := by
      by_cases h : k > 0
      · rw [if_pos h]
        exact Nat.le_of_eq rfl
      · rw [if_neg h]
        exact Nat.zero_le _
    omega
theorem listText_le (ts : List Str) : (listText ts).length ≤ 2 + piled ts := by
  unfold listText
  rw [strLen_append]
  have := textFrom_le ts 0 "["
  have e1 : (Str.ofString "[").length = 1 := rfl
  have e2 : (Str.ofString "]").length = 1 := rfl
  omega
theorem tupleText_le (ts : List Str) : (tupleText ts).length ≤ 3 + piled ts := by
  unfold tupleText
  rw [strLen_append, strLen_append]
  have e1 : (Str.ofString "(").length = 1 := rfl
  have e2 : (Str.ofString (if ts.length == 1 then ",)" else ")" : String)).length ≤ 2 := by
    by_cases h : (ts.length == 1) = true
    · rw [if_pos h]
      exact Nat.le_of_eq rfl
    · rw [if_neg h]
      exact Nat.le_succ _
  cases ts with
  | nil =>
    have e3 : (Str.join ", " ([] : List Str)).length = 0 := rfl
    omega
  | cons t r =>
    have := join_length_add (t :: r) (by simp)
    omega
theorem piled_le {B : Nat} : ∀ {ds : List PyData}, (∀ e ∈ ds, e.shown.length ≤ B) → piled (PyData.shownAll ds) ≤ ds.length * (B + 2)
  | [], _ => Nat.zero_le _
  | d :: ds, h => by
    have ih := piled_le (ds := ds) (B := B) fun e he => h e (List.mem_cons_of_mem _ he)
    have h0 := h d (List.mem_cons_self ..)
    simp only [PyData.shownAll]
    rw [piled_cons, List.length_cons, Nat.add_mul]
    omega
def Bound : Nat → Nat
  | 0 => 110
  | n + 1 => 3 + 50 * (Bound n + 2)
theorem Bound.up (n : Nat) : 110 ≤ Bound n := by
  induction n with
  | zero => exact Nat.le_refl _
  | succ n ih =>
    show 110 ≤ 3 + 50 * (Bound n + 2)
    omega
theorem log_of {i : Int} (h : i.natAbs < 2 ^ 100) : i.natAbs.log2 < 100 := PySem.Flt.log2_lt_of (by decide) h
theorem Leaf.shown {d : PyData} (h : Leaf d) : d.shown.length ≤ 110 ∧ d.showable = true ∧ d.depth ≤ 1 := by
  cases d with
  | none => exact ⟨by simp only [PyData.shown]; decide, by simp only [PyData.showable], by simp only [PyData.depth]; omega⟩
  | bool b => exact ⟨by simp only [PyData.shown]; cases b <;> decide, by simp only [PyData.showable], by simp only [PyData.depth]; omega⟩
  | int i =>
    have l := log_of h
    refine ⟨?_, by simp only [PyData.showable]; exact decide_eq_true (by omega), by simp only [PyData.depth]; omega⟩
    simp only [PyData.shown]
    have := int_text_length_le (k := 100) (by decide) l
    rw [PySem.ofString_length]
    omega
  | str x => exact ⟨by simp only [PyData.shown]; exact h, by simp only [PyData.showable], by simp only [PyData.depth]; omega⟩
  | dict kvs =>
    have e : kvs = [] := h
    subst e
    exact ⟨by simp only [PyData.shown, PyData.shownKv]; decide, by simp only [PyData.showable, PyData.showableKv], by simp only [PyData.depth, PyData.depthKv]; omega⟩
  | list ds => exact h.elim
  | tuple ds => exact h.elim
theorem showableAll_of : ∀ {ds : List PyData}, (∀ e ∈ ds, e.showable = true) → PyData.showableAll ds = true
  | [], _ => by simp only [PyData.showableAll]
  | d :: ds, h => by
    simp only [PyData.showableAll]
    rw [h d (List.mem_cons_self ..), showableAll_of fun e he => h e (List.mem_cons_of_mem _ he)]
    rfl
theorem depthAll_of {n : Nat} : ∀ {ds : List PyData}, (∀ e ∈ ds, e.depth ≤ n) → PyData.depthAll ds ≤ n
  | [], _ => by simp only [PyData.depthAll]; omega
  | d :: ds, h => by
    simp only [PyData.depthAll]
    have h0 := h d (List.mem_cons_self ..)
    have ih := depthAll_of (n := n) fun e he => h e (List.mem_cons_of_mem _ he)
    omega
theorem Nice.shown : ∀ {n : Nat} {d : PyData}, Nice n d → d.shown.length ≤ Bound n ∧ d.showable = true ∧ d.depth ≤ n + 1
  | 0, d, h => by
    obtain ⟨a, b, c⟩ := Leaf.shown h
    exact ⟨a, b, by omega⟩
  | n + 1, d, h => by
    rcases h with h | ⟨ds, e, l, a⟩
    · obtain ⟨x, y, z⟩ := Leaf.shown h
      exact ⟨Nat.le_trans x (Bound.up _), y, by omega⟩
    · have m : ds.length * (Bound n + 2) ≤ 50 * (Bound n + 2) := Nat.mul_le_mul_right _ l
      have pl := piled_le (B := Bound n) fun x hx => (Nice.shown (a x hx)).1
      have sh := showableAll_of fun x hx => (Nice.shown (a x hx)).2.1
      have dp := depthAll_of (n := n + 1) fun x hx => (Nice.shown (a x hx)).2.2
      rcases e with rfl | rfl
      · refine ⟨?_, by simp only [PyData.showable]; exact sh, by simp only [PyData.depth]; omega⟩
        simp only [PyData.shown]
        have := listText_le (PyData.shownAll ds)
        show _ ≤ 3 + 50 * (Bound n + 2)
        omega
      · refine ⟨?_, by simp only [PyData.showable]; exact sh, by simp only [PyData.depth]; omega⟩
        simp only [PyData.shown]
        have := tupleText_le (PyData.shownAll ds)
        show _ ≤ 3 + 50 * (Bound n + 2)
        omega
theorem Nice.fits {d : PyData} (h : Nice 3 d) : d.showable = true ∧ d.shown.length ≤ sizeLine ∧ d.depth ≤ 60 := by
  obtain ⟨a, b, c⟩ := h.shown
  refine ⟨b, Nat.le_trans a ?_, by omega⟩
  rw [sizeLine_eq]
  decide
/-! ### what is tracked, but for one thing -/
def hid (H : Hp) (g : Addr) : Hp := fun b => if b = g then none else H b
theorem hid_ne {H : Hp} {g b : Addr} (h : b ≠ g) : hid H g b = H b := if_neg h
theorem hid_same {H : Hp} {g : Addr} : Same (hid H g) H := fun b o e => by
  by_cases h : b = g
  · unfold hid at e
    rw [if_pos h] at e
    cases e
  · rw [hid_ne h] at e
    exact e
theorem hid_none {H : Hp} {g b : Addr} {o : HO} (h : hid H g b = some o) : b ≠ g := fun z => by
  unfold hid at h
  rw [if_pos z] at h
  cases h
end GL

namespace GL
open PySem PySem.Spec PyProof.Rows L2
theorem dpAll_ints {K : PySem.W.Frag} {H : Hp} : ∀ ns : List Int, DpAll K H (ns.map V.int) (ns.map PyData.int)
  | [] => .nil
  | n :: ns => .cons (.int n) (dpAll_ints ns)
/-- a row of numbers, as data -/
def rowP (ns : List Int) : PyData := .list (ns.map PyData.int)
theorem dp_row {K : PySem.W.Frag} {H : Hp} {a : Addr} {ns : List Int} (h : SqL K H a (ns.map V.int)) : Dp K H (.ref a) (rowP ns) := .lst h (dpAll_ints ns)
def rSortedL (K : PySem.W.Frag) : List V → Hp → VK → Prop := fun vs H Q => ∃ (a : Addr) (ts : List (Addr × List Int)), vs = [.ref a] ∧ SqL K H a (ts.map fun t => V.ref t.1) ∧ (∀ t ∈ ts, SqL K H t.1 (t.2.map V.int)) ∧
  ∀ p, H p = none → Q (.ref p) (upd H p (.lst ((ts.mergeSort fun x y => decide (x.2 ≤ y.2)).map fun t => V.ref t.1)))
theorem each_refs {ts : List (Addr × List Int)} : ∀ {its : List Value}, Vals (ts.map fun t => V.ref t.1) its → PySem.W.EachIs (fun v (b : Addr × List Int) => v = Value.ref b.1) its ts := by
  induction ts with
  | nil =>
    intro its h
    cases h
    exact .nil
  | cons t ts ih =>
    intro its h
    cases h with
    | cons r h => exact .cons r (ih h)
theorem refs_each {ts : List (Addr × List Int)} : ∀ {its : List Value}, PySem.W.EachIs (fun v (b : Addr × List Int) => v = Value.ref b.1) its ts → Vals (ts.map fun t => V.ref t.1) its := by
  induction ts with
  | nil =>
    intro its h
    cases h
    exact .nil
  | cons t ts ih =>
    intro its h
    cases h with
    | cons r h => exact .cons r (ih h)
theorem each_of {R : Value → Addr × List Int → Prop} {ts : List (Addr × List Int)} : ∀ {its : List Value}, PySem.W.EachIs (fun v (b : Addr × List Int) => v = Value.ref b.1) its ts → (∀ t ∈ ts, R (.ref t.1) t) → PySem.W.EachIs R its ts := by
  induction ts with
  | nil =>
    intro its h _
    cases h
    exact .nil
  | cons t ts ih =>
    intro its h q
    cases h with
    | cons r h =>
      subst r
      exact .cons (q t (List.mem_cons_self ..)) (ih h fun t' ht => q t' (List.mem_cons_of_mem _ ht))
section
variable {X : Cx}
theorem cr_sortedL (hu : X.A.units + 64 < cLine) : CallR X (.builtin "sorted") (rSortedL X.K) := by
  intro pins s σ H vs us Q I r h
  obtain ⟨a, ts, rfl, hs, hx, q⟩ := h
  obtain ⟨its, rv, hl, hz⟩ := I.list hs
  obtain ⟨u, rfl, ru⟩ := vals1 r
  obtain rfl : u = Value.ref a := ru
  have e := each_refs rv
  refine PySem.W.sorted_data (enc := fun b : Addr × List Int => rowP b.2) (R := fun v b => v = Value.ref b.1) hl.isList e (each_of e fun t ht => Dp.reads I _ _ _ (dp_row (hx t ht)) rfl)
    (PySem.W.AllAlike.of fun b b' => ?_) (PySem.W.Sortable.others fun b => ⟨fun z => (by cases z), fun xs z => (by cases z)⟩) (by rw [← List.length_map (as := ts) (f := fun t => V.ref t.1)]; exact hz) (fun b hb => ?_) fun out ho eo => ?_
  · unfold rowP
    simp only [PySem.W.alike]
    exact PySem.W.alike_ints _ _
  · have d1 : (rowP b.2).depth ≤ 2 := by
      unfold rowP
      simp only [PyData.depth]
      have := PySem.W.depth_ints b.2
      omega
    omega
  · have eo' : (ts.mergeSort (PySem.W.dataLe false fun b => rowP b.2)) = ts.mergeSort fun x y => decide (x.2 ≤ y.2) := by
      have := PySem.W.dataLe_rows (β := Addr × List Int) fun b => b.2
      unfold rowP
      rw [this]
    rw [eo'] at eo
    obtain ⟨c, hc⟩ := sortedAll_at s.heap its out.toArray
    refine ⟨.ref (s.heap.objs.size + 1), upd H (s.heap.objs.size + 1) _, I.laid (t' := s.toks) (o := .lst ((ts.mergeSort fun x y => decide (x.2 ≤ y.2)).map fun t => V.ref t.1)) (fun b o q => sortedAll_old q) (Nat.le_succ _) ⟨?_, out, c, refs_each eo, hc⟩, rfl, q _ (I.hok.fresh (Nat.le_succ _))⟩
    rw [List.length_map, (List.mergeSort_perm ts _).length_eq, ← List.length_map (as := ts) (f := fun t => V.ref t.1)]
    exact hz
end
/-! ### how many unlike numbers -/
def alikeAll (ns : List Int) : Bool := ns.all fun z => z == ns.headD 0
def tLenSetV (K : PySem.W.Frag) (ta : TE) : TE := fun σ H Q => ta σ H fun x H1 => ∃ (l : Addr) (ns : List Int), x = .ref l ∧ SqL K H1 l (ns.map V.int) ∧ ns.length ≤ 4000 ∧ ∀ n : Nat, ((n ≤ 1) ↔ (∀ x ∈ ns, ∀ y ∈ ns, x = y)) → Q (.int n) H1
theorem dups_ne {a : Int} {l : List Int} (h : a ∈ l) : l.eraseDups ≠ [] := fun e => by
  have := (PySem.W.oss_has (l := l) (x := a)).2 h
  rw [PySem.W.oss_dups, e] at this
  cases this
theorem met_one {ns : List Int} : (firstMet (fun i => ns.getD i 0) ns.length).length ≤ 1 ↔ (∀ x ∈ ns, ∀ y ∈ ns, x = y) := by
  rw [PySem.W.oss_met, PySem.W.oss_dups]
  cases ns with
  | nil => simp
  | cons a r =>
    rw [List.eraseDups_cons, List.length_cons]
    constructor
    · intro h
      have e : (r.filter fun x => !x == a).eraseDups = [] := List.length_eq_zero_iff.mp (by omega)
      have z : ∀ x ∈ r, x = a := fun x hx => by
        by_cases c : x = a
        · exact c
        · exact (dups_ne (l := r.filter fun x => !x == a) (List.mem_filter.mpr ⟨hx, by simp [c]⟩) e).elim
      have z' : ∀ x ∈ a :: r, x = a := fun x hx => by
        rcases List.mem_cons.mp hx with hx | hx
        · exact hx
        · exact z x hx
      exact fun x hx y hy => (z' x hx).trans (z' y hy).symm
    · intro h
      have e : (r.filter fun x => !x == a) = [] := List.filter_eq_nil_iff.mpr fun x hx => by
        have := h x (List.mem_cons_of_mem _ hx) a (List.mem_cons_self ..)
        simp [this]
      rw [e]
      exact Nat.le_refl _
theorem pe_lenSetV {X : Cx} {a : Expr} {ta : TE} {p p2 q pos : Pos} (hg : Gl X "len") (hm : X.mg "len" = none) (hg2 : Gl X "set") (hm2 : X.mg "set" = none) (ha : PE X a ta) (hc : X.calm = true := by rfl)
    (na : starEach [a] X.env = (false, eval a X.env) :: starEach [] X.env := by rfl) : PE X (.Call (.Name "len" p) [.Call (.Name "set" p2) [a] [] q] [] pos) (tLenSetV X.K ta) := by
  refine ⟨fun pins s σ H Q I h => ?_⟩
  refine Call_ (ld_blt I hg hm boot_len ?_)
  refine PyProof.Rows.callWith_builtin1 (PyProof.Rows.args_cons ?_ rfl) rfl rfl
  refine Call_ (ld_blt I hg2 hm2 (show bootBuiltins "set" = some (.type "set") by decide +kernel) ?_)
  refine PyProof.Rows.callWith_type1 (PyProof.Rows.args_cons (thn (ha.run pins s σ H _ I h) fun v s1 ⟨x, H1, I1, r1, q1⟩ => PyProof.Rows.args_nil ?_) na) na rfl
  obtain ⟨l, ns, rfl, hq, hl, q1⟩ := q1
  cases r1
  obtain ⟨its, r, pl, hz⟩ := I1.list hq
  have hlen : its.toArray.size = ns.length := by rw [List.size_toArray, ← r.length, List.length_map]
  refine call_set_list (I1.ok.hd hc) pl.isList (by simpa using RZ.intsAre_vals r) (by rw [hlen]; unfold scanBound; omega) fun h' tk hS hk => ?_
  refine PyProof.Rows.args_nil ?_
  have b := firstMet_length_le (fun i => ns.getD i 0) ns.length
  rw [hlen] at hS
  obtain ⟨o, es, ep, t, ho, hex, hd, _, _, _, hf, hn⟩ := hS
  have I2 : Inv X pins σ H1 { s1 with heap := h', toks := tk } := I1.kept fun b o e => hk b o (Heap.lt_size e) e
  exact call_len_set ho hex hd hf (by rw [hn] <;> omega) ⟨.int (firstMet (fun i => ns.getD i 0) ns.length).length, H1, I2.tok _, ⟨_, by rw [hn]⟩, q1 _ met_one⟩
/-! ### rows compared -/
theorem eqv_ints : ∀ xs ys : List Int, PyData.eqvAll (xs.map PyData.int) (ys.map PyData.int) = decide (xs = ys)
  | [], [] => by simp [PyData.eqvAll]
  | [], y :: ys => by simp [PyData.eqvAll]
  | x :: xs, [] => by simp [PyData.eqvAll]
  | x :: xs, y :: ys => by
    simp only [List.map_cons, PyData.eqvAll, PyData.eqv]
    rw [eqv_ints xs ys]
    by_cases h1 : x = y
    · subst h1
      simp
    · simp [h1]
theorem eqv_row (xs ys : List Int) : PyData.eqv (rowP xs) (rowP ys) = decide (xs = ys) := by
  unfold rowP
  simp only [PyData.eqv]
  exact eqv_ints xs ys
def tabP (kss : List (List Int)) : PyData := .list (kss.map rowP)
theorem eqv_rows : ∀ xs ys : List (List Int), PyData.eqvAll (xs.map rowP) (ys.map rowP) = decide (xs = ys)
  | [], [] => by simp [PyData.eqvAll]
  | [], y :: ys => by simp [PyData.eqvAll]
  | x :: xs, [] => by simp [PyData.eqvAll]
  | x :: xs, y :: ys => by
    simp only [List.map_cons, PyData.eqvAll]
    rw [eqv_rows xs ys, eqv_row]
    by_cases h1 : x = y
    · subst h1
      simp
    · simp [h1]
theorem eqv_tab (xs ys : List (List Int)) : PyData.eqv (tabP xs) (tabP ys) = decide (xs = ys) := by
  unfold tabP
  simp only [PyData.eqv]
  exact eqv_rows xs ys
theorem lay_ints : ∀ xs : List Int, PyData.canLayAll0 (xs.map PyData.int) = true
  | [] => by simp [PyData.canLayAll0]
  | x :: xs => by
    simp only [List.map_cons, PyData.canLayAll0, PyData.canLay0]
    rw [lay_ints xs]
    rfl
theorem lay_row (xs : List Int) : PyData.canLay0 (rowP xs) = true := by
  unfold rowP
  simp only [PyData.canLay0]
  exact lay_ints xs
theorem lay_rows : ∀ xs : List (List Int), PyData.canLayAll0 (xs.map rowP) = true
  | [] => by simp [PyData.canLayAll0]
  | x :: xs => by
    simp only [List.map_cons, PyData.canLayAll0]
    rw [lay_rows xs, lay_row]
    rfl
theorem depth_row (xs : List Int) : (rowP xs).depth ≤ 1 := by
  unfold rowP
  simp only [PyData.depth]
  have := PySem.W.depth_ints xs
  omega
theorem depth_rows (xs : List (List Int)) : (tabP xs).depth ≤ 2 := by
  unfold tabP
  simp only [PyData.depth]
  have := depthAll_of (n := 1) (ds := xs.map rowP) fun e he => by
    obtain ⟨x, _, rfl⟩ := List.mem_map.mp he
    exact depth_row x
  omega
theorem shaped_row (xs : List Int) : SeqAt.shaped (rowP xs) = true := by
  unfold SeqAt.shaped
  rw [lay_row, decide_eq_true (Nat.le_trans (depth_row xs) (by decide))]
  rfl
theorem shaped_tab (xs : List (List Int)) : SeqAt.shaped (tabP xs) = true := by
  unfold SeqAt.shaped
  rw [decide_eq_true (Nat.le_trans (depth_rows xs) (by decide))]
  unfold tabP
  simp only [PyData.canLay0]
  rw [lay_rows]
  rfl
theorem any_row (xs : List (List Int)) (y : List Int) : ((xs.map rowP).any fun z => PyData.eqv z (rowP y)) = decide (y ∈ xs) := by
  induction xs with
  | nil => simp
  | cons x xs ih =>
    rw [List.map_cons, List.any_cons, ih, eqv_row]
    by_cases h : x = y
    · subst h
      simp
    · have h' : y ≠ x := fun z => h z.symm
      simp [h, h']
/-- a list of rows, as data -/
theorem dpAll_rows {K : PySem.W.Frag} {H : Hp} : ∀ {rs : List Addr} {kss : List (List Int)}, rs.length = kss.length → (∀ (i : Nat) r ks, rs[i]? = some r → kss[i]? = some ks → SqL K H r (ks.map V.int)) → DpAll K H (rs.map V.ref) (kss.map rowP)
  | [], [], _, _ => .nil
  | [], _ :: _, l, _ => by simp at l
  | _ :: _, [], l, _ => by simp at l
  | r :: rs, ks :: kss, l, h => .cons (dp_row (h 0 r ks rfl rfl)) (dpAll_rows (Nat.succ.inj l) fun i r' ks' a b => h (i + 1) r' ks' a b)
end GL

/-! itertools.combinations of a range, at the library's level -/
namespace Cmb
open PySem PySem.Spec PyProof.Rows
open Sem (wp)
theorem mro_c : mroOf (.type "itertools.combinations") = pure [.type "itertools.combinations", .type "object"] := by rw [mroOf_type]; kernel_rfl
theorem lookup_c_new : typeLookup (.type "itertools.combinations") "__new__" = pure (some (.builtin "itertools.combinations.__new__")) := by rw [typeLookup_type, builtinLookup_eq_fast]; kernel_rfl
theorem slot_c_init : Slot "itertools.combinations" "__init__" "object.__init__" :=
  .of (owner := "object") (n := "__init__") (by rw [typeLookup_type, builtinLookup_eq_fast]; kernel_rfl) (by decide +kernel) (by decide +kernel) (by decide +kernel)
    (by first | exact .inl (by decide +kernel) | exact .inr (by decide +kernel)) (by rw [isSubtype_type]; kernel_rfl)
theorem sub_c : isSubtype (.type "itertools.combinations") (.type "itertools.combinations") = pure true := by rw [isSubtype_type]; kernel_rfl
theorem called_c : TypeCalled "itertools.combinations" "itertools.combinations.__new__" "object.__init__" :=
  ⟨by decide +kernel, by decide +kernel, ⟨_, _, mro_c⟩, madeBy_type mro_c lookup_c_new (by decide +kernel), by decide +kernel, sub_c, slot_c_init⟩
theorem typeCall_c_2 (a b : Value) : checkTypeCall "itertools.combinations" ⟨[a, b], []⟩ = pure () := by kernel_rfl
theorem newCall_c_2 (a b : Value) : checkBuiltinCall "itertools.combinations.__new__" ⟨[.type "itertools.combinations", a, b], []⟩ = pure () := by kernel_rfl
theorem entry_c_new : entryFor table "itertools.combinations.__new__" = some Builtin.«itertools.combinations.__new__» := entryFor_of_tree (by kernel_rfl)
theorem slot_c_iter : Slot "itertools.combinations" "__iter__" "itertools.combinations.__iter__" :=
  .of (owner := "itertools.combinations") (n := "__iter__") (by rw [typeLookup_type, builtinLookup_eq_fast]; kernel_rfl) (by decide +kernel) (by decide +kernel) (by decide +kernel)
    (by first | exact .inl (by decide +kernel) | exact .inr (by decide +kernel)) sub_c
theorem slot_c_next : Slot "itertools.combinations" "__next__" "itertools.combinations.__next__" :=
  .of (owner := "itertools.combinations") (n := "__next__") (by rw [typeLookup_type, builtinLookup_eq_fast]; kernel_rfl) (by decide +kernel) (by decide +kernel) (by decide +kernel)
    (by first | exact .inl (by decide +kernel) | exact .inr (by decide +kernel)) sub_c
theorem entry_c_iter : entryFor table "itertools.combinations.__iter__" = some Builtin.«dict_keyiterator.__iter__» :=
  entryFor_alias (id' := "dict_keyiterator.__iter__") (by kernel_rfl) (by first | rfl | decide +kernel | (unfold String.splitOn; simp +decide [String.splitOnAux])) (by decide +kernel) (by kernel_rfl)
theorem entry_c_next : entryFor table "itertools.combinations.__next__" = some Builtin.«itertools.combinations.__next__» := entryFor_of_tree (by kernel_rfl)
theorem owner_c : Manifest.owners.lookup (String.ofList ['s', 'n', 'o', 'i', 't', 'a', 'n', 'i', 'b', 'm', 'o', 'c', '.', 's', 'l', 'o', 'o', 't', 'r', 'e', 't', 'i'].reverse) = some Manifest.sig_itertools_combinations := by kernel_rfl
theorem noDict_c : typeHasDict (.type "itertools.combinations") = false := by decide +kernel
theorem args_c_iter (a : Value) : argsOk "itertools.combinations.__iter__" ⟨[a], []⟩ := by
  unfold argsOk; rw [signature?_of (id := "itertools.combinations.__iter__") (n := ['_', '_', 'r', 'e', 't', 'i', '_', '_']) (o := ['s', 'n', 'o', 'i', 't', 'a', 'n', 'i', 'b', 'm', 'o', 'c', '.', 's', 'l', 'o', 'o', 't', 'r', 'e', 't', 'i']) (by kernel_rfl) owner_c]; kernel_rfl
theorem args_c_next (a : Value) : argsOk "itertools.combinations.__next__" ⟨[a], []⟩ := by
  unfold argsOk; rw [signature?_of (id := "itertools.combinations.__next__") (n := ['_', '_', 't', 'x', 'e', 'n', '_', '_']) (o := ['s', 'n', 'o', 'i', 't', 'a', 'n', 'i', 'b', 'm', 'o', 'c', '.', 's', 'l', 'o', 'o', 't', 'r', 'e', 't', 'i']) (by kernel_rfl) owner_c]; kernel_rfl
end Cmb

namespace Cmb
open PySem PySem.Spec PyProof.Rows
/-! ### all choices of r of the numbers from lo to n - 1, in order -/
def combs (n : Nat) : Nat → Nat → Nat → List (List Nat)
  | 0, _, _ => [[]]
  | r + 1, 0, lo => []
  | r + 1, d + 1, lo => (combs n r d (lo + 1)).map (lo :: ·) ++ combs n (r + 1) d (lo + 1)
/-- the row that begins at lo -/
def rowF (lo r : Nat) : List Nat := (List.range r).map (lo + ·)
theorem rowF_cons (lo r : Nat) : rowF lo (r + 1) = lo :: rowF (lo + 1) r := by
  unfold rowF
  rw [List.range_succ_eq_map, List.map_cons, List.map_map]
  congr 1
  exact List.map_congr_left fun j _ => by show lo + (j + 1) = lo + 1 + j; omega
theorem combs_len (n : Nat) : ∀ r d lo, ∀ l ∈ combs n r d lo, l.length = r
  | 0, d, lo, l, h => by
    cases d <;> (rw [combs] at h; rw [List.mem_singleton] at h; rw [h]; rfl)
  | r + 1, 0, lo, l, h => by
    rw [combs] at h
    cases h
  | r + 1, d + 1, lo, l, h => by
    rw [combs, List.mem_append, List.mem_map] at h
    rcases h with ⟨t, ht, rfl⟩ | h
    · rw [List.length_cons, combs_len n r d _ t ht]
    · exact combs_len n (r + 1) d _ l h
theorem combs_head (n : Nat) : ∀ r d lo, (combs n r d lo).head? = if r ≤ d then some (rowF lo r) else none
  | 0, d, lo => by
    rw [if_pos (Nat.zero_le _)]
    cases d <;> (rw [combs]; rfl)
  | r + 1, 0, lo => by
    rw [if_neg (by omega), combs]
    rfl
  | r + 1, d + 1, lo => by
    rw [combs, List.head?_append, List.head?_map, combs_head n r d (lo + 1), combs_head n (r + 1) d (lo + 1)]
    by_cases h : r ≤ d
    · rw [if_pos h, if_pos (show r + 1 ≤ d + 1 by omega), rowF_cons lo r]
      rfl
    · rw [if_neg h, if_neg (show ¬ r + 1 ≤ d by omega), if_neg (show ¬ r + 1 ≤ d + 1 by omega)]
      rfl
/-- the choice behind one, as a row -/
def nxt (n : Nat) : List Nat → Option (List Nat)
  | [] => none
  | a :: t => match nxt n t with
    | some t' => some (a :: t')
    | none => if (a != n - (t.length + 1)) = true then some (rowF (a + 1) (t.length + 1)) else none
/-- each is followed by the next one, the last one by e -/
def Ch {α : Type} (f : α → Option α) : List α → Option α → Prop
  | [], _ => True
  | [x], e => f x = e
  | x :: y :: r, e => f x = some y ∧ Ch f (y :: r) e
theorem Ch.append {α : Type} {f : α → Option α} : ∀ {l m : List α} {e : Option α}, Ch f l (match m with | [] => e | y :: _ => some y) → Ch f m e → Ch f (l ++ m) e
  | [], m, e, _, h => h
  | [x], [], e, h, _ => h
  | [x], y :: m, e, h, g => ⟨h, g⟩
  | x :: y :: l, m, e, h, g => ⟨h.1, Ch.append (l := y :: l) h.2 g⟩
theorem Ch.cons {n a r : Nat} {e : Option (List Nat)} : ∀ {l : List (List Nat)}, (∀ t ∈ l, t.length = r) → Ch (nxt n) l none → (e = if (a != n - (r + 1)) = true then some (rowF (a + 1) (r + 1)) else none) → Ch (nxt n) (l.map (a :: ·)) e
  | [], _, _, _ => trivial
  | [x], hl, h, he => by
    have h' : nxt n x = none := h
    have lx := hl x (List.mem_cons_self ..)
    show nxt n (a :: x) = e
    unfold nxt
    rw [h', he, lx]
  | x :: y :: l, hl, h, he => by
    refine ⟨?_, Ch.cons (l := y :: l) (fun t ht => hl t (List.mem_cons_of_mem _ ht)) h.2 he⟩
    show nxt n (a :: x) = some (a :: y)
    unfold nxt
    rw [h.1]
theorem combs_chain (n : Nat) : ∀ r d lo, lo + d = n → Ch (nxt n) (combs n r d lo) none
  | 0, d, lo, h => by cases d <;> (rw [combs]; rfl)
  | r + 1, 0, lo, h => by
    rw [combs]
    trivial
  | r + 1, d + 1, lo, h => by
    rw [combs]
    refine Ch.append ?_ (combs_chain n (r + 1) d (lo + 1) (by omega))
    have hd := combs_head n (r + 1) d (lo + 1)
    by_cases hr : r ≤ d
    · refine Ch.cons (combs_len n r d (lo + 1)) (combs_chain n r d (lo + 1) (by omega)) ?_
      by_cases c : r + 1 ≤ d
      · rw [if_pos c] at hd
        have ne : (lo != n - (r + 1)) = true := by
          rw [bne_iff_ne]
          omega
        rw [if_pos ne]
        cases e : combs n (r + 1) d (lo + 1) with
        | nil => rw [e] at hd; cases hd
        | cons y m => rw [e] at hd; exact hd
      · rw [if_neg c] at hd
        have eq : ¬ (lo != n - (r + 1)) = true := by
          rw [bne_iff_ne]
          omega
        rw [if_neg eq]
        cases e : combs n (r + 1) d (lo + 1) with
        | nil => rfl
        | cons y m => rw [e] at hd; cases hd
    · have e0 : combs n r d (lo + 1) = [] := by
        have := combs_head n r d (lo + 1)
        rw [if_neg hr] at this
        exact List.head?_eq_none_iff.mp this
      rw [e0]
      exact trivial
theorem Ch.at {α : Type} {f : α → Option α} : ∀ {l : List α} {x : α} {i : Nat}, Ch f l none → l[i]? = some x → f x = l[i + 1]?
  | [], _, _, _, h => by simp at h
  | [y], x, 0, h, e => by
    cases e
    exact h
  | [y], x, i + 1, h, e => by simp at e
  | y :: z :: l, x, 0, h, e => by
    cases e
    exact h.1
  | y :: z :: l, x, i + 1, h, e => Ch.at (l := z :: l) (i := i) h.2 e
/-- as the library has it -/
def nextC (n : Nat) (indices : List Nat) : Option (List Nat) :=
  let r := indices.length
  match (List.range r).reverse.find? fun i => indices.getD i 0 != i + n - r with
  | none => none
  | some i => some (indices.take i ++ (List.range (r - i)).map (indices.getD i 0 + 1 + ·))
theorem nextC_nxt (n : Nat) : ∀ l : List Nat, nextC n l = nxt n l
  | [] => rfl
  | a :: t => by
    have ih := nextC_nxt n t
    unfold nextC at ih ⊢
    unfold nxt
    rw [← ih]
    simp only [List.length_cons]
    rw [List.range_succ_eq_map, List.reverse_cons, List.find?_append, ← List.map_reverse, List.find?_map]
    have ef : ((fun i => (a :: t).getD i 0 != i + n - (t.length + 1)) ∘ Nat.succ) = fun i => t.getD i 0 != i + n - t.length := by
      funext i
      show ((a :: t).getD (i + 1) 0 != i + 1 + n - (t.length + 1)) = (t.getD i 0 != i + n - t.length)
      rw [List.getD_cons_succ, show i + 1 + n - (t.length + 1) = i + n - t.length by omega]
    rw [ef]
    cases h : (List.range t.length).reverse.find? (fun i => t.getD i 0 != i + n - t.length) with
    | some i =>
      have il : i < t.length := by
        have := List.mem_of_find?_eq_some h
        rw [List.mem_reverse, List.mem_range] at this
        exact this
      show some ((a :: t).take (i + 1) ++ (List.range (t.length + 1 - (i + 1))).map ((a :: t).getD (i + 1) 0 + 1 + ·)) = some (a :: (t.take i ++ (List.range (t.length - i)).map (t.getD i 0 + 1 + ·)))
      rw [List.getD_cons_succ, List.take_succ_cons, show t.length + 1 - (i + 1) = t.length - i by omega]
      rfl
    | none =>
      show (match (none : Option Nat).or ([0].find? fun i => (a :: t).getD i 0 != i + n - (t.length + 1)) with
        | none => none
        | some i => some ((a :: t).take i ++ (List.range (t.length + 1 - i)).map ((a :: t).getD i 0 + 1 + ·))) = _
      rw [Option.none_or]
      by_cases c : (a != n - (t.length + 1)) = true
      · have f0 : ([0].find? fun i => (a :: t).getD i 0 != i + n - (t.length + 1)) = some 0 := by
          refine List.find?_cons_of_pos ?_
          show (a != 0 + n - (t.length + 1)) = true
          rw [Nat.zero_add]
          exact c
        rw [f0, if_pos c]
        rfl
      · have f0 : ([0].find? fun i => (a :: t).getD i 0 != i + n - (t.length + 1)) = none := by
          rw [List.find?_cons_of_neg]
          · rfl
          · show ¬ (a != 0 + n - (t.length + 1)) = true
            rw [Nat.zero_add]
            exact c
        rw [f0, if_neg c]
def choices (n r : Nat) : List (List Nat) := combs n r n 0
theorem choices_first {n r : Nat} (h : r ≤ n) : (choices n r)[0]? = some (List.range r) := by
  have := combs_head n r n 0
  rw [if_pos h] at this
  unfold choices
  rw [← List.head?_eq_getElem?, this]
  unfold rowF
  congr 1
  conv => rhs; rw [← List.map_id (List.range r)]
  exact List.map_congr_left fun j _ => Nat.zero_add j
theorem choices_next {n r i : Nat} {x : List Nat} (h : (choices n r)[i]? = some x) : nextC n x = (choices n r)[i + 1]? := by
  rw [nextC_nxt]
  exact Ch.at (combs_chain n r n 0 (Nat.zero_add n)) h
theorem choices_none {n r : Nat} (h : n < r) : choices n r = [] := by
  have := combs_head n r n 0
  rw [if_neg (by omega)] at this
  exact List.head?_eq_none_iff.mp this
theorem choices_len {n r : Nat} {x : List Nat} (h : x ∈ choices n r) : x.length = r := combs_len n r n 0 x h
end Cmb

namespace Cmb
open PySem PySem.Spec PyProof.Rows
def recC (p : Addr) (st : Int) (last : Value) (idx : List Nat) : Array Value := ([Value.ref p, rawInt st, last] ++ idx.map fun (i : Nat) => rawInt i).toArray
abbrev IsC (h : Heap) (it p : Addr) (st : Int) (last : Value) (idx : List Nat) : Prop := h.get? it = some { cls := .type "itertools.combinations", dict := none, data := .fields (recC p st last idx), slots := #[] }
/-- the pool: the numbers below n -/
def IsPool (h : Heap) (p : Addr) (n : Nat) : Prop := ∃ acc, h.get? p = some { cls := .type "tuple", dict := none, data := .seq acc, slots := #[] } ∧ ItemsOf (fun i v => ∃ t, v = Value.int ((i : Nat) : Int) t) acc n
section
variable {prog : Program} {w : World} {A : Around} {E : Value → Shared → Prop} {s : Shared}
theorem numbers_at {it p : Addr} {st : Int} {last : Value} {idx : List Nat} {Q : List Nat → Shared → Prop} (hit : IsC s.heap it p st last idx) (h : Q idx s) : wpAny (model prog w) A (Builtin.Itertools.itNumbersFrom (.ref it) 3) Q E s := by
  unfold Builtin.Itertools.itNumbersFrom
  refine wpAny_bind (wpAny_load hit ?_)
  show wpAny _ _ (pure _) _ _ _
  refine wpAny_pure ?_
  have e : ((recC p st last idx).toList.drop 3).map (fun | .int n _ => n.toNat | _ => 0) = idx := by
    unfold recC
    rw [List.toList_toArray]
    show ((idx.map fun (i : Nat) => rawInt i)).map _ = idx
    rw [List.map_map]
    conv => rhs; rw [← List.map_id idx]
    exact List.map_congr_left fun j _ => by show ((j : Nat) : Int).toNat = j; exact Int.toNat_natCast j
  exact Eq.mpr (congrArg (fun l => Q l s) e) h
theorem field_at {it p : Addr} {st : Int} {last : Value} {idx : List Nat} {i : Nat} {x : Value} {Q : Value → Shared → Prop} (hit : IsC s.heap it p st last idx) (hx : (recC p st last idx)[i]? = some x) (h : Q x s) : wpAny (model prog w) A (field (.ref it) i) Q E s := wpAny_field hit rfl hx h
theorem state_at {it p : Addr} {st : Int} {last : Value} {idx : List Nat} {Q : Int → Shared → Prop} (hit : IsC s.heap it p st last idx) (h : Q st s) : wpAny (model prog w) A (Builtin.Itertools.itIntField (.ref it) 1) Q E s := by
  unfold Builtin.Itertools.itIntField
  exact wpAny_bind (field_at hit (x := rawInt st) rfl (wpAny_pure h))
theorem pick_at {p : Addr} {n : Nat} {idx : List Nat} {Q : Value → Shared → Prop} (hp : IsPool s.heap p n) (hb : ∀ j ∈ idx, j < n) (hl : idx.length ≤ 1000)
    (h : ∀ us : List Value, us.length = idx.length → (∀ (j k : Nat) , idx[j]? = some k → ∃ t, us[j]? = some (Value.int (k : Int) t)) → Q (.ref s.heap.objs.size) { s with heap := s.heap.push { cls := .type "tuple", data := .seq us.toArray } }) :
    wpAny (model prog w) A (Builtin.Itertools.itPoolItems (.ref p) >>= fun items => newTuple (idx.map fun i => items.getD i .none)) Q E s := by
  obtain ⟨acc, ho, hs, hi⟩ := hp
  refine wpAny_bind ?_
  unfold Builtin.Itertools.itPoolItems
  refine wpAny_bind (wpAny_seqItems ho rfl ?_)
  refine wpAny_pure ?_
  refine wpAny_newTuple (h _ (List.length_map _) fun j k e => ?_) (by rw [List.length_map]; exact Nat.le_trans hl (by decide))
  have kn := hb k (List.mem_of_getElem? e)
  rw [List.getElem?_map, e]
  have hk : k < acc.size := by rw [hs]; exact kn
  obtain ⟨t, ht⟩ := hi k _ (Array.getElem?_eq_getElem hk)
  refine ⟨t, ?_⟩
  show some (acc.getD k .none) = _
  rw [Array.getD_eq_getD_getElem?, Array.getElem?_eq_getElem hk, ← ht]
  rfl
theorem next_out {it p : Addr} {n : Nat} {last : Value} {idx : List Nat} {Q : Value → Shared → Prop} (hit : IsC s.heap it p 1 last idx) (hp : IsPool s.heap p n) (hb : ∀ j ∈ idx, j < n) (hl : idx.length ≤ 1000)
    (h : ∀ (h' : Heap) (us : List Value), us.length = idx.length → (∀ (j k : Nat) , idx[j]? = some k → ∃ t, us[j]? = some (Value.int (k : Int) t)) → IsC h' it p 1 (.ref s.heap.objs.size) idx → h'.get? s.heap.objs.size = some { cls := .type "tuple", data := .seq us.toArray } →
      (∀ b o, b ≠ it → s.heap.get? b = some o → h'.get? b = some o) → Q (.ref s.heap.objs.size) { s with heap := h' }) :
    wpAny (model prog w) A ((Builtin.Itertools.itPoolItems (.ref p) >>= fun items => newTuple (idx.map fun i => items.getD i .none)) >>= fun result => field (.ref it) 2 >>= fun before => setField (.ref it) 2 result >>= fun _ => letGo [before] [result] >>= fun _ => ret result) (fun fin s' => ∃ v, fin = .done (.ret v) ∧ Q v s') E s := by
  refine wpAny_bind (pick_at hp hb hl fun us hu hx => ?_)
  have lt := Heap.lt_size hit
  have hit2 : IsC (s.heap.push { cls := .type "tuple", data := .seq us.toArray }) it p 1 last idx := Heap.get?_push_of_some _ hit
  refine wpAny_bind (field_at (s := { s with heap := s.heap.push { cls := .type "tuple", data := .seq us.toArray } }) hit2 (x := last) rfl ?_)
  refine wpAny_bind (wpAny_setField hit2 rfl (by simp [recC]) ?_)
  refine wpAny_bind (wpAny_letGo (wpAny_pure ⟨_, rfl, h _ us hu hx ?_ ?_ ?_⟩))
  · show ((s.heap.push _).update it _).get? it = _
    rw [Heap.get?_update_self _ hit2 rfl]
    simp [recC, Obj.mapFields]
  · have ne : s.heap.objs.size ≠ it := Nat.ne_of_gt lt
    exact (Heap.SameBut.update ..).2 _ ne |>.trans (Heap.get?_push_size _ rfl)
  · intro b o hb' e
    exact ((Heap.SameBut.update ..).2 _ hb').trans (Heap.get?_push_of_some _ e)
theorem comb_first {it p : Addr} {n : Nat} {last : Value} {idx : List Nat} {Q : Option Value → Shared → Prop} (hit : IsC s.heap it p 0 last idx) (hp : IsPool s.heap p n) (hb : ∀ j ∈ idx, j < n) (hl : idx.length ≤ 1000)
    (h : ∀ (h' : Heap) (us : List Value), us.length = idx.length → (∀ (j k : Nat) , idx[j]? = some k → ∃ t, us[j]? = some (Value.int (k : Int) t)) → IsC h' it p 1 (.ref s.heap.objs.size) idx → h'.get? s.heap.objs.size = some { cls := .type "tuple", data := .seq us.toArray } →
      (∀ b o, b ≠ it → s.heap.get? b = some o → h'.get? b = some o) → Q (some (.ref s.heap.objs.size)) { s with heap := h' }) :
    wpAny (model prog w) A (callSpecial? (.ref it) "__next__") Q E s := by
  have hT : s.TypeIs (.ref it) "itertools.combinations" := ⟨_, hit, rfl⟩
  refine wpAny_callSpecial?_slot (name := Str.ofString "__next__") hT slot_c_next (wpAny_call_entry slot_c_next hT entry_c_next ?_ (args_c_next _))
  show wpAny _ _ (field (.ref it) 0 >>= _) _ _ s
  refine wpAny_bind (field_at hit (x := .ref p) rfl ?_)
  show wpAny _ _ (Builtin.Itertools.itNumbersFrom (.ref it) 3 >>= _) _ _ s
  refine wpAny_bind (numbers_at hit ?_)
  show wpAny _ _ (Builtin.Itertools.itIntField (.ref it) 1 >>= _) _ _ s
  refine wpAny_bind (state_at hit ?_)
  show wpAny _ _ (setField (.ref it) 1 (rawInt 1) >>= _) _ _ s
  refine wpAny_bind (wpAny_setField hit rfl (by simp [recC]) ?_)
  have sb := Heap.SameBut.update s.heap it (Obj.mapFields fun x => x.setIfInBounds 1 (rawInt 1))
  have hit2 : IsC (s.heap.update it (Obj.mapFields fun x => x.setIfInBounds 1 (rawInt 1))) it p 1 last idx := by
    show (s.heap.update it _).get? it = _
    rw [Heap.get?_update_self _ hit rfl]
    simp [recC, Obj.mapFields]
  have pit : p ≠ it := fun z => by
    obtain ⟨acc, ho, _⟩ := hp
    rw [z, hit] at ho
    exact absurd (Value.type.inj (congrArg Obj.cls (Option.some.inj ho))) (by decide)
  have hp2 : IsPool (s.heap.update it (Obj.mapFields fun x => x.setIfInBounds 1 (rawInt 1))) p n := by
    obtain ⟨acc, ho, r⟩ := hp
    exact ⟨acc, (sb.2 p pit).trans ho, r⟩
  refine next_out (s := { s with heap := s.heap.update it (Obj.mapFields fun x => x.setIfInBounds 1 (rawInt 1)) }) hit2 hp2 hb hl fun h' us hu hx hi ht hk => ?_
  have e : (s.heap.update it (Obj.mapFields fun x => x.setIfInBounds 1 (rawInt 1))).objs.size = s.heap.objs.size := sb.1
  rw [e] at hi ht ⊢
  exact h h' us hu hx hi ht fun b o hb e => hk b o hb ((sb.2 b hb).trans e)
theorem comb_more {it p : Addr} {n : Nat} {last : Value} {idx nx : List Nat} {Q : Option Value → Shared → Prop} (hit : IsC s.heap it p 1 last idx) (hp : IsPool s.heap p n) (hn : nextC n idx = some nx) (hb : ∀ j ∈ nx, j < n) (hl : nx.length ≤ 1000)
    (h : ∀ (h' : Heap) (us : List Value), us.length = nx.length → (∀ (j k : Nat) , nx[j]? = some k → ∃ t, us[j]? = some (Value.int (k : Int) t)) → IsC h' it p 1 (.ref s.heap.objs.size) nx → h'.get? s.heap.objs.size = some { cls := .type "tuple", data := .seq us.toArray } →
      (∀ b o, b ≠ it → s.heap.get? b = some o → h'.get? b = some o) → Q (some (.ref s.heap.objs.size)) { s with heap := h' }) :
    wpAny (model prog w) A (callSpecial? (.ref it) "__next__") Q E s := by
  have hT : s.TypeIs (.ref it) "itertools.combinations" := ⟨_, hit, rfl⟩
  refine wpAny_callSpecial?_slot (name := Str.ofString "__next__") hT slot_c_next (wpAny_call_entry slot_c_next hT entry_c_next ?_ (args_c_next _))
  show wpAny _ _ (field (.ref it) 0 >>= _) _ _ s
  refine wpAny_bind (field_at hit (x := .ref p) rfl ?_)
  show wpAny _ _ (Builtin.Itertools.itNumbersFrom (.ref it) 3 >>= _) _ _ s
  refine wpAny_bind (numbers_at hit ?_)
  show wpAny _ _ (Builtin.Itertools.itIntField (.ref it) 1 >>= _) _ _ s
  refine wpAny_bind (state_at hit ?_)
  show wpAny _ _ (Builtin.Itertools.itPoolItems (.ref p) >>= _) _ _ s
  obtain ⟨acc, ho, hs, hi⟩ := id hp
  refine wpAny_bind ?_
  unfold Builtin.Itertools.itPoolItems
  refine wpAny_bind (wpAny_seqItems ho rfl ?_)
  refine wpAny_pure ?_
  show wpAny _ _ (match nextC acc.size idx with | some next => _ | none => _) _ _ s
  rw [hs, hn]
  show wpAny _ _ (Builtin.Itertools.itSetNumbersFrom (.ref it) 3 nx >>= _) _ _ s
  refine wpAny_bind ?_
  unfold Builtin.Itertools.itSetNumbersFrom
  refine wpAny_updateFields hit rfl ?_ ?_
  · have sb := Heap.SameBut.update s.heap it (Obj.mapFields fun fs => fs.extract 0 3 ++ (nx.map fun (n : Nat) => rawInt n).toArray)
    have hit2 : IsC (s.heap.update it (Obj.mapFields fun fs => fs.extract 0 3 ++ (nx.map fun (n : Nat) => rawInt n).toArray)) it p 1 last nx := by
      show (s.heap.update it _).get? it = _
      rw [Heap.get?_update_self _ hit rfl]
      simp [recC, Obj.mapFields]
    have pit : p ≠ it := fun z => by
      rw [z, hit] at ho
      exact absurd (Value.type.inj (congrArg Obj.cls (Option.some.inj ho))) (by decide)
    have hp2 : IsPool (s.heap.update it (Obj.mapFields fun fs => fs.extract 0 3 ++ (nx.map fun (n : Nat) => rawInt n).toArray)) p n := ⟨acc, (sb.2 p pit).trans ho, hs, hi⟩
    refine next_out (s := { s with heap := s.heap.update it (Obj.mapFields fun fs => fs.extract 0 3 ++ (nx.map fun (n : Nat) => rawInt n).toArray) }) hit2 hp2 hb hl fun h' us hu hx hi ht hk => ?_
    have e : (s.heap.update it (Obj.mapFields fun fs => fs.extract 0 3 ++ (nx.map fun (n : Nat) => rawInt n).toArray)).objs.size = s.heap.objs.size := sb.1
    rw [e] at hi ht ⊢
    exact h h' us hu hx hi ht fun b o hb e => hk b o hb ((sb.2 b hb).trans e)
  · have a : ((recC p 1 last idx).extract 0 3 ++ (nx.map fun (n : Nat) => rawInt n).toArray).size ≤ 3 + 1000 := by
      rw [Array.size_append, Array.size_extract, List.size_toArray, List.size_toArray, List.length_map]
      omega
    exact Nat.le_trans a (by rw [sizeLine_eq]; decide)
theorem comb_end {it p : Addr} {n : Nat} {st : Int} {last : Value} {idx : List Nat} {Q : Option Value → Shared → Prop} (hh : A.handled = none) (hit : IsC s.heap it p st last idx) (hp : IsPool s.heap p n) (hs : st = 2 ∨ (st = 1 ∧ nextC n idx = none))
    (hQ : ∀ e h', CpRep.StopE e h' → Heap.ExtBut it s.heap h' → E e { s with heap := h' }) : wpAny (model prog w) A (callSpecial? (.ref it) "__next__") Q E s := by
  have hT : s.TypeIs (.ref it) "itertools.combinations" := ⟨_, hit, rfl⟩
  refine wpAny_callSpecial?_slot (name := Str.ofString "__next__") hT slot_c_next (wpAny_call_entry slot_c_next hT entry_c_next ?_ (args_c_next _))
  show wpAny _ _ (field (.ref it) 0 >>= _) _ _ s
  refine wpAny_bind (field_at hit (x := .ref p) rfl ?_)
  show wpAny _ _ (Builtin.Itertools.itNumbersFrom (.ref it) 3 >>= _) _ _ s
  refine wpAny_bind (numbers_at hit ?_)
  show wpAny _ _ (Builtin.Itertools.itIntField (.ref it) 1 >>= _) _ _ s
  refine wpAny_bind (state_at hit ?_)
  have stop : ∀ {h0 : Heap}, Heap.ExtBut it s.heap h0 → wpAny (model prog w) A.in1 (Builtin.Itertools.itStop : Sem Fin) (fun fin s' => ∃ v, fin = .done (.ret v) ∧ Q (some v) s') E { s with heap := h0 } := fun {h0} eb => by
    unfold Builtin.Itertools.itStop
    show wpAny _ _ (newExc (.type "StopIteration") [] >>= _) _ _ _
    refine wpAny_bind ?_
    simp only [newExc, newTuple]
    refine wpAny_bind (wpAny_newObj_type ?_ (by size_fits))
    refine wpAny_bind (m := firstArgMember _ _) (wpAny_of_eq (a := Value.none) (by first | rfl | (simp only [firstArgMember]; rfl)) ?_)
    refine wpAny_newObj_type ?_ (by size_fits)
    simp only [raiseNew]
    refine wpAny_bind (wpAny_handled ?_)
    first | rw [show A.in1.handled = none from hh] | rw [hh]
    refine wpAny_bind (wpAny_pure (wpAny_throw ?_))
    exact hQ _ _ ⟨_, _, _, rfl, Heap.get?_push_size _ rfl, rfl, rfl, rfl⟩ ((eb.push _).push _)
  rcases hs with rfl | ⟨rfl, hn⟩
  · show wpAny _ _ (PySem.rule "itertools.combinations.ended" >>= _) _ _ s
    exact wpAny_bind (wpAny_rule (stop (Heap.ExtBut.refl it s.heap)))
  · show wpAny _ _ (Builtin.Itertools.itPoolItems (.ref p) >>= _) _ _ s
    obtain ⟨acc, ho, hs, hi⟩ := id hp
    refine wpAny_bind ?_
    unfold Builtin.Itertools.itPoolItems
    refine wpAny_bind (wpAny_seqItems ho rfl ?_)
    refine wpAny_pure ?_
    show wpAny _ _ (match nextC acc.size idx with | some next => _ | none => _) _ _ s
    rw [hs, hn]
    show wpAny _ _ (setField (.ref it) 1 (rawInt 2) >>= _) _ _ s
    refine wpAny_bind (wpAny_setField hit rfl (by simp [recC]) ?_)
    exact stop (Heap.SameBut.update ..).extBut
theorem iter_self {it p : Addr} {st : Int} {last : Value} {idx : List Nat} {Q : Value → Shared → Prop} (hit : IsC s.heap it p st last idx) (h : Q (.ref it) s) : wpAny (model prog w) A (pyIter (.ref it)) Q E s := by
  have hT : s.TypeIs (.ref it) "itertools.combinations" := ⟨_, hit, rfl⟩
  refine wpAny_pyIter_slot hT slot_c_iter (wpAny_call_entry slot_c_iter hT entry_c_iter ?_ (args_c_iter _))
  show wpAny _ _ (ret (.ref it)) _ _ s
  exact wpAny_pure ⟨_, rfl, "itertools.combinations", _, hT, slot_c_next.lookup, h⟩
theorem next_of {it : Addr} {Q : Option Value → Shared → Prop} (h : wpAny (model prog w) A (callSpecial? (.ref it) "__next__") (fun r s' => r.isSome = true ∧ Q r s') (fun e s' => CpRep.StopE e s'.heap ∧ Q none s') s) : wpAny (model prog w) A (pyNext (.ref it)) Q E s := by
  unfold pyNext
  refine wpAny_bind (wpAny_attempt (wpAny_mono h (fun r s' q => ?_) fun e s' q => ?_))
  · cases r with
    | none => cases q.1
    | some v => exact wpAny_pure q.2
  · obtain ⟨⟨a, o, vs, rfl, ho, hc, hd, _⟩, q⟩ := q
    refine wpAny_bind (wpAny_isInstance (T := "StopIteration") (b := true) ⟨o, ho, hc⟩ isSubtype_stop ?_)
    exact wpAny_pure q
end
end Cmb

namespace Cmb
open PySem PySem.Spec PyProof.Rows L2
theorem class_at (rest : List Value) : Builtin.Itertools.itClassAndRest "combinations" ⟨.type "itertools.combinations" :: rest, []⟩ = pure (.type "itertools.combinations", rest) := by
  unfold Builtin.Itertools.itClassAndRest
  show (isSubtype (.type "itertools.combinations") (.type "itertools.combinations") >>= _) = _
  rw [sub_c]
  rfl
theorem bind_at (a b : Value) : Builtin.Itertools.itBindNamed "combinations" ["iterable", "r"] 2 2 [a, b] [] = pure [some a, some b] := by kernel_rfl
theorem ssize_at {r : Nat} {t : Tok} (h : r ≤ 1000) : Builtin.Itertools.itSsizeArg (.int r t) = pure (r : Int) := by
  unfold Builtin.Itertools.itSsizeArg
  show (if (decide ((r : Int) < -(2 ^ 63 : Int)) || decide ((r : Int) ≥ 2 ^ 63)) = true then _ else _) = _
  rw [decide_eq_false (by omega : ¬ ((r : Int) < -(2 ^ 63 : Int))), decide_eq_false (by omega : ¬ ((r : Int) ≥ 2 ^ 63))]
  rfl
theorem plain_c_new : plainId "itertools.combinations.__new__" = true := by decide +kernel
section
variable {prog : Program} {w : World} {A : Around} {E : Value → Shared → Prop} {s : Shared}
theorem code_c_new {rg : Addr} {n r : Nat} {t u v tr : Tok} {Q₁ : Value → Shared → Prop} (hh : A.handled = none) (hr : IsRange s.heap rg 0 n 1 t u v) (n1000 : n ≤ 1000) (r1000 : r ≤ 1000)
    (h : ∀ (h1 h' : Heap) (tk : Nat), (∀ b o, s.heap.get? b = some o → h1.get? b = some o) → (∀ b o, h1.get? b = some o → h'.get? b = some o) → IsPool h' h1.objs.size n → IsC h' (h1.objs.size + 1) h1.objs.size (if r > n then 2 else 0) .none (List.range r) → Q₁ (.ref (h1.objs.size + 1)) { s with heap := h', toks := tk }) :
    codeAny (model prog w) A (.call (.builtin "itertools.combinations.__new__") ⟨[.type "itertools.combinations", .ref rg, .int r tr], []⟩) (wants Q₁ E) s := by
  refine codeAny_of_tree ?_
  show wpAny _ A.in1 (do checkBuiltinCall "itertools.combinations.__new__" ⟨[.type "itertools.combinations", .ref rg, .int r tr], []⟩; again (.builtin "itertools.combinations.__new__" ⟨[.type "itertools.combinations", .ref rg, .int r tr], []⟩)) _ _ s
  refine wpAny_bind (wpAny_of_eq (newCall_c_2 _ _) (wpAny_pure ⟨plainId_quiet plain_c_new _, codeAny_builtin entry_c_new ?_⟩))
  rw [Around.under_plainId plain_c_new _]
  have hsub := sub_c
  have hd := noDict_c
  have hTI : s.TypeIs (.ref rg) "range" := ⟨_, hr, rfl⟩
  have hh1 : A.in1.handled = none := hh
  have hsmall : Builtin.Range.small 0 n 1 = true := small_one (by omega) (by omega) (by omega) (by omega)
  have hn : Builtin.Range.rangeSize 0 n 1 = n := by rw [rangeSize_one]; split <;> omega
  unfold Builtin.«itertools.combinations.__new__»
  refine wpAny_bind ?_
  show wpAny _ _ (Builtin.Itertools.itClassAndRest "combinations" ⟨.type "itertools.combinations" :: [.ref rg, .int r tr], []⟩ >>= _) _ _ s
  refine wpAny_bind (wpAny_of_eq (class_at _) ?_)
  show wpAny _ _ (Builtin.Itertools.itBindNamed "combinations" ["iterable", "r"] 2 2 [.ref rg, .int r tr] [] >>= _) _ _ s
  refine wpAny_bind (wpAny_of_eq (bind_at _ _) ?_)
  show wpAny _ _ (Builtin.Itertools.itSsizeArg (.int r tr) >>= _) _ _ s
  refine wpAny_bind (wpAny_of_eq (ssize_at r1000) ?_)
  show wpAny _ _ (collect (.ref rg) >>= _) _ _ s
  refine wpAny_bind (collect_range hh1 hr hsmall hn (by omega) fun h' tk acc hk hacc => ?_)
  show wpAny _ _ (if ((r : Int) < 0) then _ else _) _ _ _
  rw [if_neg (by omega)]
  show wpAny _ _ (if Builtin.Itertools.itTooMany (r : Int) = true then _ else _) _ _ _
  have tm : Builtin.Itertools.itTooMany (r : Int) = false := decide_eq_false (by omega)
  rw [if_neg (by rw [tm]; decide)]
  show wpAny _ _ (newTuple acc.toList >>= _) _ _ _
  have al : acc.toList.length = n := by rw [Array.length_toList, hacc.1]
  refine wpAny_bind (wpAny_newTuple ?_ (by rw [al]; exact Nat.le_trans n1000 (by decide)))
  refine wpAny_pure ?_
  show wpAny _ _ (Builtin.Itertools.itNewRecord (.type "itertools.combinations") ([.ref h'.objs.size, rawInt (if (r : Int).toNat > acc.toList.length then 2 else 0), .none] ++ (List.range (r : Int).toNat).map fun (i : Nat) => rawInt i) >>= _) _ _ _
  refine wpAny_bind ?_
  unfold Builtin.Itertools.itNewRecord
  rw [al, Int.toNat_natCast, if_pos (by rw [hd]; rfl)]
  have sz1 : (h'.push { cls := .type "tuple", data := .seq acc.toList.toArray }).objs.size = h'.objs.size + 1 := by simp [Heap.push]
  refine wpAny_newObj_type ?_ ?_
  · refine wpAny_pure ?_
    rw [sz1]
    refine h h' _ _ hk (fun b o e => Heap.get?_push_of_some _ (Heap.get?_push_of_some _ e)) ⟨acc, ?_, ?_⟩ ?_
    · refine Heap.get?_push_of_some _ ?_
      rw [Heap.get?_push_size _ rfl, Array.toArray_toList]
    · exact ⟨hacc.1, fun j v e => by
        obtain ⟨t, ht⟩ := hacc.2 j v e
        exact ⟨t, by rw [ht, Int.zero_add, Int.mul_one]⟩⟩
    · show ((h'.push _).push _).get? (h'.objs.size + 1) = _
      rw [← sz1]
      exact Heap.get?_push_size _ (by rfl)
  · show ((([Value.ref h'.objs.size, rawInt (if r > n then 2 else 0), Value.none] ++ (List.range r).map fun (i : Nat) => rawInt i).toArray).size ≤ sizeLine + 2)
    rw [List.size_toArray, List.length_append, List.length_map, List.length_range, sizeLine_eq]
    show 3 + r ≤ _
    omega
end
end Cmb

namespace Cmb
open PySem PySem.Spec PyProof.Rows L2
theorem combs_low (n : Nat) : ∀ r d lo, lo + d = n → ∀ l ∈ combs n r d lo, ∀ j ∈ l, lo ≤ j ∧ j < n
  | 0, d, lo, _, l, h, j, hj => by
    cases d <;> (rw [combs] at h; rw [List.mem_singleton] at h; rw [h] at hj; cases hj)
  | r + 1, 0, lo, _, l, h, j, hj => by
    rw [combs] at h
    cases h
  | r + 1, d + 1, lo, e, l, h, j, hj => by
    rw [combs, List.mem_append, List.mem_map] at h
    rcases h with ⟨t, ht, rfl⟩ | h
    · rcases List.mem_cons.mp hj with rfl | hj
      · omega
      · have := combs_low n r d (lo + 1) (by omega) t ht j hj
        omega
    · have := combs_low n (r + 1) d (lo + 1) (by omega) l h j hj
      omega
theorem choices_low {n r : Nat} {l : List Nat} (h : l ∈ choices n r) : ∀ j ∈ l, j < n := fun j hj => (combs_low n r n 0 (Nat.zero_add n) l h j hj).2
def natT (l : List Nat) : List V := l.map fun (j : Nat) => V.int (j : Int)
/-- one choice after the other, each a new tuple -/
def YC (n r : Nat) (i : Nat) (H : Hp) (x : V) (H' : Hp) : Prop := ∃ (T : Addr) (l : List Nat), x = .ref T ∧ H T = none ∧ (choices n r)[i]? = some l ∧ H' = upd H T (.tup (natT l))
def Itcb (n r : Nat) : It := ⟨fun i _ => i < (choices n r).length, YC n r, fun i _ => (choices n r).length ≤ i⟩
/-- the iterator's state ahead of turn i -/
def St (n r : Nat) (it p : Addr) (i : Nat) (h : Heap) : Prop := p ≠ it ∧ IsPool h p n ∧ match i with
  | 0 => ∃ last, IsC h it p (if r > n then 2 else 0) last (List.range r)
  | i + 1 => ∃ last l, (choices n r)[i]? = some l ∧ IsC h it p 1 last l
theorem turn_comb {P : Program} {w : World} {K : PySem.W.Frag} {tg : Expr} (it p : Addr) (n r : Nat) (r1000 : r ≤ 1000) : Turn P w K tg (Itcb n r) [it, p] it (St n r it p) where
  mem := by simp
  obj := fun i h st b hb => by
    obtain ⟨ne, ⟨acc, hp, _⟩, hi⟩ := st
    have e' : b = it ∨ b = p := by simpa using hb
    rcases e' with z | z
    · rw [z]
      cases i with
      | zero => obtain ⟨last, hi⟩ := hi; exact ⟨_, hi, fun v q => nomatch (show Data.fields _ = Data.cell v from q)⟩
      | succ i => obtain ⟨last, l, _, hi⟩ := hi; exact ⟨_, hi, fun v q => nomatch (show Data.fields _ = Data.cell v from q)⟩
    · rw [z]
      exact ⟨_, hp, fun v q => nomatch (show Data.seq _ _ = Data.cell v from q)⟩
  keep := fun i h h' st k => by
    obtain ⟨ne, ⟨acc, hp, hs⟩, hi⟩ := st
    refine ⟨ne, ⟨acc, k p (by simp) _ hp, hs⟩, ?_⟩
    cases i with
    | zero => obtain ⟨last, hi⟩ := hi; exact ⟨last, k it (by simp) _ hi⟩
    | succ i => obtain ⟨last, l, e, hi⟩ := hi; exact ⟨last, l, e, k it (by simp) _ hi⟩
  item := by
    intro X hP hw hK hc i pins s σ H E I hf st hg
    subst hP hw hK
    obtain ⟨ne, pool, hi⟩ := st
    have hil : it < s.heap.objs.size := by
      cases i with
      | zero => obtain ⟨last, hi⟩ := hi; exact Heap.lt_size hi
      | succ i => obtain ⟨last, l, _, hi⟩ := hi; exact Heap.lt_size hi
    have hpl : p < s.heap.objs.size := by
      obtain ⟨acc, hp, _⟩ := pool
      exact Heap.lt_size hp
    have gl : i < (choices n r).length := hg
    obtain ⟨nx, enx⟩ : ∃ nx, (choices n r)[i]? = some nx := ⟨_, List.getElem?_eq_getElem gl⟩
    have low := choices_low (List.mem_of_getElem? enx)
    have len := choices_len (List.mem_of_getElem? enx)
    have fin : ∀ (h' : Heap) (us : List Value), us.length = nx.length → (∀ (j k : Nat) , nx[j]? = some k → ∃ t, us[j]? = some (Value.int (k : Int) t)) → IsC h' it p 1 (.ref s.heap.objs.size) nx → h'.get? s.heap.objs.size = some { cls := .type "tuple", data := .seq us.toArray } →
        (∀ b o, b ≠ it → s.heap.get? b = some o → h'.get? b = some o) →
        ∃ u, (some (Value.ref s.heap.objs.size)) = some u ∧ wpAny (model X.prog X.w) X.A (letOwnedTupleGo tg (.ref it) u) (fun _ s2 => ∃ x H', Inv X pins σ H' s2 ∧ RelV x u ∧ (Itcb n r).yld i H x H' ∧ St n r it p (i + 1) s2.heap ∧ ∀ b ∈ [it, p], H' b = none) E { s with heap := h' } := fun h' us hu hx hi ht hk => by
      have rel : Vals (natT nx) us := vals_of_at (by unfold natT; rw [List.length_map, hu]) fun j x u e1 e2 => by
        unfold natT at e1
        rw [List.getElem?_map] at e1
        cases e3 : nx[j]? with
        | none => rw [e3] at e1; cases e1
        | some k =>
          rw [e3] at e1
          cases e1
          obtain ⟨t, e4⟩ := hx j k e3
          rw [e4] at e2
          cases e2
          exact ⟨t, rfl⟩
      have new : ObjOk X.prog X.w (upd H s.heap.objs.size (.tup (natT nx))) h' s.heap.objs.size (.tup (natT nx)) :=
        ⟨by unfold natT; rw [List.length_map, len]; exact Nat.le_trans r1000 (by decide), us, rel, ⟨_, ht, rfl, _, rfl⟩⟩
      have I1 : Inv X pins σ (upd H s.heap.objs.size (.tup (natT nx))) { s with heap := h', toks := s.toks } :=
        I.turnedNew (ch := [it, p]) (fun b ob hb q => hk b ob (fun z => hb (by simp [z])) q) hf (Nat.le_refl _) new
      refine ⟨_, rfl, go_of (s := { s with heap := h' }) (n := "itertools.combinations") hi rfl rfl (by decide) ⟨.ref s.heap.objs.size, _, I1, rfl, ⟨_, nx, rfl, I.hok.fresh (Nat.le_refl _), enx, rfl⟩, ⟨ne, ?_, _, nx, enx, hi⟩, fun b hb => ?_⟩⟩
      · obtain ⟨acc, hp, hs⟩ := pool
        exact ⟨acc, hk p _ ne hp, hs⟩
      · have hb' : b < s.heap.objs.size := by
          have e' : b = it ∨ b = p := by simpa using hb
          rcases e' with z | z
          · rw [z]; exact hil
          · rw [z]; exact hpl
        rw [upd_ne (Nat.ne_of_lt hb')]
        exact (hf b hb).1
    refine next_of ?_
    cases i with
    | zero =>
      obtain ⟨last, hi⟩ := hi
      have rn : r ≤ n := by
        rcases Nat.lt_or_ge n r with z | z
        · rw [choices_none z] at gl
          cases gl
        · exact z
      have st0 : (if r > n then (2 : Int) else 0) = 0 := if_neg (by omega)
      rw [st0] at hi
      rw [choices_first rn] at enx
      cases enx
      exact comb_first hi pool low (by rw [len]; exact r1000) fun h' us a b c d e => ⟨rfl, fin h' us a b c d e⟩
    | succ i =>
      obtain ⟨last, l, e, hi⟩ := hi
      have hn := choices_next e
      rw [enx] at hn
      exact comb_more hi pool hn low (by rw [len]; exact r1000) fun h' us a b c d e => ⟨rfl, fin h' us a b c d e⟩
  done := by
    intro X hP hw hK hc i pins s σ H E I hf st hg
    subst hP hw hK
    obtain ⟨ne, pool, hi⟩ := st
    obtain ⟨f0, f1, f2, f3, f4, f5⟩ := hf it (by simp)
    have gl : (choices n r).length ≤ i := hg
    refine next_of ?_
    have fin : ∀ e h', CpRep.StopE e h' → Heap.ExtBut it s.heap h' → CpRep.StopE e h' ∧ ((none : Option Value) = none ∧ Inv X pins σ H { s with heap := h' }) := fun e h' se eb => ⟨se, rfl, I.turned (t' := s.toks) (fun b o hb e => eb b o hb e) f0 f1 f3 f4 f5⟩
    cases i with
    | zero =>
      obtain ⟨last, hi⟩ := hi
      have rn : r > n := by
        rcases Nat.lt_or_ge n r with z | z
        · exact z
        · have := choices_first z
          rw [List.length_eq_zero_iff.mp (Nat.le_zero.mp gl)] at this
          cases this
      exact comb_end (I.ok.hd hc) hi pool (.inl (if_pos rn)) fin
    | succ i =>
      obtain ⟨last, l, e, hi⟩ := hi
      have hn := choices_next e
      rw [List.getElem?_eq_none gl] at hn
      exact comb_end (I.ok.hd hc) hi pool (.inr ⟨rfl, hn⟩) fin
  self := fun A i s Q E st h => by
    obtain ⟨ne, pool, hi⟩ := st
    cases i with
    | zero => obtain ⟨last, hi⟩ := hi; exact iter_self hi h
    | succ i => obtain ⟨last, l, e, hi⟩ := hi; exact iter_self hi h
section
variable {X : Cx} {tg : Expr}
theorem cr_range1 : CallR X (.type "range") (fun vs H Q => ∃ j, vs = [V.int j] ∧ ∀ p, H p = none → Q (.ref p) (upd H p (.rng 0 j))) := by
  intro pins s σ H vs us Q I r h
  obtain ⟨j, rfl, q⟩ := h
  obtain ⟨u1, rfl, rj⟩ := vals1 r
  obtain ⟨t, rfl⟩ := rj
  refine call_range_1 ⟨.ref s.heap.objs.size, upd H s.heap.objs.size (.rng 0 j), I.laid (t' := s.toks + 1 + 1) (fun b o e => Heap.get?_push_of_some _ e) (Nat.le_refl _) ?_, rfl, q _ (I.hok.fresh (Nat.le_refl _))⟩
  exact ⟨s.toks, t, s.toks + 1, Heap.get?_push_size _ rfl⟩
/-- combinations(range(..), r) walked -/
def iComb (ta : TA) : TI := fun σ H R => ta σ H fun vs H1 => ∃ (a : Addr) (n r : Nat), vs = [.ref a, .int r] ∧ H1 a = some (.rng 0 n) ∧ n ≤ 1000 ∧ r ≤ 1000 ∧ R (Itcb n r) H1
theorem pi_comb {e e2 : Expr} {ta : TA} {p pos : Pos} {x : Str} (hg : Gl X x) (hm : X.mg x = some (.type "itertools.combinations")) (ha : PA X [e, e2] ta) (hcalm : X.calm = true := by rfl) (hdb : (x == ("__debug__" : Str)) = false := by decide)
    (hs : starEach [e, e2] X.env = [(false, eval e X.env), (false, eval e2 X.env)] := by rfl) (hs2 : starEach [e2] X.env = [(false, eval e2 X.env)] := by rfl) : PI X tg (.Call (.Name x p) [e, e2] [] pos) (iComb ta) := by
  refine ⟨fun pins s σ H R I h => ?_⟩
  refine Call_ (ld_glob I hg hm (PyProof.Rows.callWith_type1 (thn (ha.run pos pins s σ H _ I h) fun us s1 ⟨vs, H1, I1, r1, q1⟩ => ?_) (by rw [hs, hs2]) (by rw [hs2]; rfl)) hdb)
  obtain ⟨a, n, r, ex, hr, n1, r1', q⟩ := q1
  subst ex
  cases r1 with
  | cons ra rr =>
    cases rr with
    | cons rb rr =>
      cases rr
      cases ra
      obtain ⟨t, rfl⟩ := rb
      obtain ⟨t1, t2, t3, hrg⟩ := (show ObjOk X.prog X.w H1 s1.heap a (.rng 0 n) from I1.hok _ _ hr)
      refine callType_codes (Q₁ := fun obj s₁ => s₁.TypeIs obj "itertools.combinations" ∧ wpAny (model X.prog X.w) X.A (pyIter obj) (PIE X pins σ tg R) X.xe s₁) called_c (typeCall_c_2 _ _) F.entry_object_init
        (code_c_new (A := X.A.in1) (I1.ok.hd hcalm) hrg n1 r1' fun h1 h' tk k1 k2 pool hc => ⟨⟨_, hc, rfl⟩, ?_⟩) fun obj s₁ h₁ => ?_
      · have I2 : Inv X pins σ H1 { s1 with heap := h1, toks := tk } := I1.kept k1
        have I3 : Inv X pins σ H1 { s1 with heap := h', toks := tk } := I2.kept (t' := tk) k2
        refine iter_self hc ?_
        refine ⟨h1.objs.size + 1, [h1.objs.size + 1, h1.objs.size], _, _, H1, rfl, I3, turn_comb (h1.objs.size + 1) h1.objs.size n r r1', ⟨(Nat.succ_ne_self _).symm, pool, _, hc⟩, fun b hb => ?_, q⟩
        have e' : b = h1.objs.size + 1 ∨ b = h1.objs.size := by simpa using hb
        have hle : h1.objs.size ≤ b := by
          rcases e' with z | z
          · rw [z]; exact Nat.le_add_right _ _
          · rw [z]; exact Nat.le_refl _
        have f0 := I2.fpOk (H' := H1) hle (I2.hok.fresh hle)
        exact f0
      · exact ⟨h₁.1, F.args_object_init_3 obj _ _, object_init_meets called_c.init.lookup called_c.made (by decide +kernel) X.prog X.w X.A.in1 _ s₁ ⟨h₁.1, rfl, h₁.2⟩⟩
theorem walk_comb {n r : Nat} : Walk (Itcb n r) (choices n r).length (fun _ => True) (YC n r) := ⟨fun _ _ h _ => h, fun _ _ => Nat.le_refl _, fun _ _ _ _ _ _ y => y⟩
end
end Cmb

/-! Places within a text: a block's statement, a statement's block, its expression, an expression's part. -/
namespace GL
open PySem PySem.Spec PyProof.Rows L2
def wS (l : List Stmt) (i : Nat) : Stmt := l.getD i (.Pass ⟨0, 0, 0, 0⟩)
def wN : Expr := .Name "" ⟨0, 0, 0, 0⟩
def wB : Stmt → Nat → List Stmt
  | .If _ b _ _, 0 => b
  | .If _ _ b _, 1 => b
  | .For _ _ b _ _, 0 => b
  | .For _ _ _ b _, 1 => b
  | .While _ b _ _, 0 => b
  | .While _ _ b _, 1 => b
  | .Try b _ _ _ _, 0 => b
  | .Try _ _ b _ _, 1 => b
  | .Try _ hs _ _ _, n => match hs[n - 2]? with | some (.ExceptHandler _ _ b _) => b | none => []
  | _, _ => []
def wX : Stmt → Nat → Expr
  | .Return (some e) _, 0 => e
  | .Assign _ e _, 0 => e
  | .Assign ts _ _, n => ts.getD (n - 1) wN
  | .AugAssign _ _ e _, 0 => e
  | .AugAssign t _ _ _, _ => t
  | .Expr e _, _ => e
  | .If c _ _ _, _ => c
  | .While c _ _ _, _ => c
  | .For _ i _ _ _, 0 => i
  | .For t _ _ _ _, _ => t
  | .Raise (some e) _ _, _ => e
  | .Delete ts _, n => ts.getD n wN
  | _, _ => wN
def wE : Expr → Nat → Expr
  | .BoolOp _ vs _, n => vs.getD n wN
  | .BinOp a _ b _, n => if n = 0 then a else b
  | .UnaryOp _ a _, _ => a
  | .IfExp a b c _, n => if n = 0 then a else if n = 1 then b else c
  | .Compare a _ cs _, n => (a :: cs).getD n wN
  | .Call f as ks _, n => if n = 99 then f else if n < 99 then as.getD n wN else match ks[n - 100]? with | some k => k.value | none => wN
  | .Attribute a _ _, _ => a
  | .Subscript a b _, n => if n = 0 then a else b
  | .List es _, n => es.getD n wN
  | .Tuple es _ _, n => es.getD n wN
  | .Slice a b c _, n => (if n = 0 then a else if n = 1 then b else c).getD wN
  | .ListComp e gs _ _, n => if n = 0 then e else match gs.head? with | some g => if n = 1 then g.iter else g.ifs.getD (n - 2) wN | none => wN
  | .DictComp k v gs _ _, n => if n = 0 then k else if n = 50 then v else match gs.head? with | some g => if n = 1 then g.iter else g.ifs.getD (n - 2) wN | none => wN
  | _, _ => wN
def wC : Expr → Scope
  | .ListComp _ _ sc _ => sc
  | .DictComp _ _ _ sc _ => sc
  | _ => { kind := .function, names := [], isGenerator := false, isCoroutine := false }
abbrev rMax2 : List V → Hp → VK → Prop := fun xs H Q => ∃ i j, xs = [V.int i, V.int j] ∧ Q (V.int (if j > i then j else i)) H
abbrev rMin2 : List V → Hp → VK → Prop := fun xs H Q => ∃ i j, xs = [V.int i, V.int j] ∧ Q (V.int (if j < i then j else i)) H
abbrev rInt1 : List V → Hp → VK → Prop := fun xs H Q => (∃ i, xs = [V.int i] ∧ Q (V.int i) H) ∨ ∃ k, xs = [V.bl k] ∧ Q (V.int (if k = true then 1 else 0)) H
end GL

namespace GL
open PySem PySem.Spec PyProof.Rows L2
section
variable {P : Program} {w : World} {K : PySem.W.Frag} {mg : Str → Option Value} {base : Heap}
/-- the built-in names that the text uses are still the built-in ones -/
structure Bi (mg : Str → Option Value) : Prop where
  int : mg "int" = none
  len : mg "len" = none
  sum : mg "sum" = none
  max : mg "max" = none
  min : mg "min" = none
  range : mg "range" = none
  isinstance : mg "isinstance" = none
  bool : mg "bool" = none
  list : mg "list" = none
  tuple : mg "tuple" = none
  all : mg "all" = none
  enumerate : mg "enumerate" = none
  repr : mg "repr" = none
  zip : mg "zip" = none
  any : mg "any" = none
  set : mg "set" = none
  sorted : mg "sorted" = none
def spHash : Sp := fun vs H Q _ => ∃ b c : Int, vs = [.int b, .int c] ∧ 0 ≤ b ∧ b < 2147483647 ∧ 0 ≤ c ∧ c < 1099511627776 ∧ ∀ r : Int, 0 ≤ r → r < 2147483647 → Q (.int r) H
/-- a list of three numbers that is drawn from: n are the draws' steps that are left -/
def Gen (H : Hp) (g : Addr) (n : Nat) : Prop := ∃ a b c : Int, H g = some (.lst [.int a, .int b, .int c]) ∧ 0 ≤ b ∧ b < 2147483647 ∧ 0 ≤ c ∧ c + n ≤ 1099511627000
theorem Gen.less {H : Hp} {g : Addr} {n m : Nat} (h : Gen H g n) (l : m ≤ n) : Gen H g m := by
  obtain ⟨a, b, c, h1, h2, h3, h4, h5⟩ := h
  exact ⟨a, b, c, h1, h2, h3, h4, by omega⟩
/-- all that was tracked but g is as it was -/
def But (g : Addr) (H H' : Hp) : Prop := ∀ b o, H b = some o → b ≠ g → H' b = some o
theorem But.refl {g : Addr} {H : Hp} : But g H H := fun _ _ e _ => e
theorem But.trans {g : Addr} {H H1 H2 : Hp} (a : But g H H1) (b : But g H1 H2) : But g H H2 := fun c o e n => b c o (a c o e n) n
theorem But.of {g : Addr} {H H' : Hp} (s : Same H H') : But g H H' := fun b o e _ => s b o e
theorem But.new {g p : Addr} {H : Hp} {o : HO} (h : H p = none) : But g H (upd H p o) := .of (same_new h)
theorem But.put {g : Addr} {H : Hp} {o : HO} : But g H (upd H g o) := fun b o' e n => by rw [upd_ne n]; exact e
theorem Gen.ne {H : Hp} {g p : Addr} {n : Nat} (h : Gen H g n) (e : H p = none) : g ≠ p := by
  obtain ⟨a, b, c, h1, _⟩ := h
  exact ne_of_none h1 e
theorem Gen.new {H : Hp} {g p : Addr} {n : Nat} {o : HO} (h : Gen H g n) (e : H p = none) : Gen (upd H p o) g n := by
  have ne := h.ne e
  obtain ⟨a, b, c, h1, r⟩ := h
  exact ⟨a, b, c, by rw [upd_ne ne]; exact h1, r⟩
theorem Gen.other {H : Hp} {g p : Addr} {n : Nat} {o : HO} (h : Gen H g n) (ne : p ≠ g) : Gen (upd H p o) g n := by
  obtain ⟨a, b, c, h1, r⟩ := h
  exact ⟨a, b, c, by rw [upd_ne ne.symm]; exact h1, r⟩
def spRandom : Sp := fun vs H Q _ => ∃ (g : Addr) (m : Int) (n : Nat), vs = [.ref g, .int m] ∧ 0 < m ∧ m < 1329227995784915872903807060280344576 ∧ Gen H g (n + 5) ∧
  ∀ (r : Int) (H' : Hp), 0 ≤ r → r < m → Gen H' g n → But g H H' → Q (.int r) H'
theorem bits_le {m : Int} (h0 : 0 < m) (h : m < 1329227995784915872903807060280344576) : (Builtin.Int.intBits m : Int) / 30 ≤ 4 ∧ 0 ≤ (Builtin.Int.intBits m : Int) / 30 := by
  have l : m.natAbs < 2 ^ 120 := by omega
  have b : Builtin.Int.intBits m ≤ 120 := by
    have x := PySem.Flt.log2_lt_of (by decide : 0 < 120) l
    unfold Builtin.Int.intBits
    split <;> omega
  omega
theorem cut_ints (ns : List Int) (lo hi : Option Int) : ∃ l : List Int, cutV (ns.map V.int) lo hi = l.map V.int ∧ l.length ≤ ns.length := by
  refine ⟨(ns.drop (HT.sIx (ns.map V.int).length 0 lo)).take (HT.sIx (ns.map V.int).length (ns.map V.int).length hi - HT.sIx (ns.map V.int).length 0 lo), ?_, ?_⟩
  · unfold cutV
    rw [← List.map_drop, ← List.map_take]
  · rw [List.length_take, List.length_drop]
    omega
def spCell (K : PySem.W.Frag) : Sp := fun vs H Q _ => ∃ (a : Addr) (ns : List Int) (i : Nat), vs = [.ref a, .int i] ∧ SqL K H a (ns.map V.int) ∧ ∀ (r : Int) (H' : Hp), Same H H' → Q (.int r) H'
def spGen (K : PySem.W.Frag) : Sp := fun vs H Q _ => ∃ (a : Addr) (ns : List Int) (i : Nat), vs = [.ref a, .int i] ∧ i ≤ 100 ∧ SqL K H a (ns.map V.int) ∧ ∀ (g : Addr) (H' : Hp), Same H H' → H g = none → Gen H' g 1000000 → Q (.ref g) H'
theorem pow60 : CPowW ((10 : Int) ^ (60 : Int).toNat) 10 := ⟨by decide, by decide +kernel⟩
theorem pow600 : (0 : Int) < ((10 : Int) ^ (60 : Int).toNat) ^ (10 : Int).toNat := Int.pow_pos (Int.pow_pos (by decide))
def whole (d : PyData) : Bool := isInt d && !isBool d
def below (k : Int) : PyData → Bool
  | .int i => decide (0 ≤ i) && decide (i < k)
  | _ => false
def rowOk (k n : Int) : PyData → Bool
  | .list ds => decide ((ds.length : Int) = n) && ds.all (below k)
  | _ => false
def rowsOk (k : Int) : Nat → List PyData → Bool
  | _, [] => true
  | n, d :: ds => rowOk k n d && rowsOk k (n + 1) ds
def compOk (k : Int) : PyData → Bool
  | .list ds => (decide (1 ≤ ds.length) && decide (ds.length ≤ 40)) && rowsOk k 0 ds
  | _ => false
def spWhole (K : PySem.W.Frag) : Sp := fun vs H Q _ => ∃ x d, vs = [x] ∧ Dt K H x d ∧ Q (.bl (whole d)) H
def spBelow (K : PySem.W.Frag) : Sp := fun vs H Q _ => ∃ x d k, vs = [x, .int k] ∧ Dt K H x d ∧ Q (.bl (below k d)) H
theorem whole_cases (d : PyData) : (∃ i, d = .int i ∧ whole d = true) ∨ (whole d = false ∧ ∀ k, below k d = false) := by
  cases d with
  | int i => exact .inl ⟨i, rfl, rfl⟩
  | _ => exact .inr ⟨rfl, fun _ => rfl⟩
def spKinds (K : PySem.W.Frag) : Sp := fun vs H Q _ => ∃ k : Int, vs = [.int k] ∧ 2 ≤ k ∧ k ≤ 9 ∧ Q (.bl true) H
/-- the bounds, as the text has written them -/
structure Cs (mg : Str → Option Value) : Prop where
  least : ∃ t, mg "LEAST_KINDS" = some (.int 2 t)
  most : ∃ t, mg "MOST_KINDS" = some (.int 9 t)
  people : ∃ t, mg "MOST_PEOPLE" = some (.int 40 t)
def spRow (K : PySem.W.Frag) : Sp := fun vs H Q _ => ∃ x d k n, vs = [.int k, .int n, x] ∧ n ≤ 1000 ∧ Dt K H x d ∧ ∀ H', Same H H' → Q (.bl (rowOk k n d)) H'
theorem take_more {α β : Type} (f : α → β) {l : List α} {i : Nat} {x : α} (h : l[i]? = some x) : (l.take (i + 1)).map f = (l.take i).map f ++ [f x] := by
  rw [List.take_add_one, h, List.map_append]
  rfl
theorem rowsOk_all (k : Int) : ∀ (ds : List PyData) (n : Nat), rowsOk k n ds = (((List.range ds.length).map fun j => rowOk k ((n + j : Nat) : Int) (ds.getD j .none))).all id
  | [], _ => rfl
  | d :: ds, n => by
    have ih := rowsOk_all k ds (n + 1)
    show (rowOk k n d && rowsOk k (n + 1) ds) = _
    rw [ih, List.length_cons, List.range_succ_eq_map, List.map_cons, List.map_map, List.all_cons]
    have e : (List.range ds.length).map (fun j => rowOk k ((n + 1 + j : Nat) : Int) (ds.getD j .none)) = (List.range ds.length).map ((fun j => rowOk k ((n + j : Nat) : Int) ((d :: ds).getD j .none)) ∘ Nat.succ) := by
      refine List.map_congr_left fun j _ => ?_
      show rowOk k ((n + 1 + j : Nat) : Int) (ds.getD j .none) = rowOk k ((n + (j + 1) : Nat) : Int) (ds.getD j .none)
      rw [show n + 1 + j = n + (j + 1) by omega]
    rw [e]
    rfl
theorem all_range_more (f : Nat → Bool) (i : Nat) : (((List.range (i + 1)).map f).map V.bl) = ((List.range i).map f).map V.bl ++ [V.bl (f i)] := by
  rw [List.range_succ, List.map_append, List.map_append]
  rfl
def spCompOf (K : PySem.W.Frag) : Sp := fun vs H Q _ => ∃ x d k, vs = [.int k, x] ∧ Dt K H x d ∧ ∀ H', Same H H' → Q (.bl (compOk k d)) H'
/-- at c a list of the lists at rs, which hold the numbers kss -/
structure Tab (H : Hp) (c : Addr) (rs : List Addr) (kss : List (List Int)) : Prop where
  top : H c = some (.lst (rs.map V.ref))
  len : rs.length = kss.length
  row : ∀ (i : Nat) (r : Addr) (ks : List Int), rs[i]? = some r → kss[i]? = some ks → H r = some (.lst (ks.map V.int))
  nd : rs.Nodup
/-- the numbers of a company -/
def Fine (k : Int) (kss : List (List Int)) : Prop := ∀ (i : Nat) (ks : List Int), kss[i]? = some ks → ks.length = i ∧ ∀ z ∈ ks, 0 ≤ z ∧ z < k
theorem Tab.same {H H' : Hp} {c : Addr} {rs : List Addr} {kss : List (List Int)} (t : Tab H c rs kss) (s : Same H H') : Tab H' c rs kss := ⟨s _ _ t.top, t.len, fun i r ks a b => s _ _ (t.row i r ks a b), t.nd⟩
theorem Tab.at {H : Hp} {c : Addr} {rs : List Addr} {kss : List (List Int)} (t : Tab H c rs kss) {i : Nat} (hi : i < kss.length) : ∃ r ks, rs[i]? = some r ∧ kss[i]? = some ks ∧ H r = some (.lst (ks.map V.int)) := by
  have h2 : i < rs.length := by rw [t.len]; exact hi
  exact ⟨rs[i], kss[i], List.getElem?_eq_getElem h2, List.getElem?_eq_getElem hi, t.row i _ _ (List.getElem?_eq_getElem h2) (List.getElem?_eq_getElem hi)⟩
def exprOf : Stmt → Expr
  | .Return (some e) _ => e
  | .Assign _ e _ => e
  | _ => .Name "" ⟨0, 0, 0, 0⟩
def stmtIn (l : List Stmt) (i : Nat) : Stmt := l.getD i (.Pass ⟨0, 0, 0, 0⟩)
def compScope : Expr → Scope
  | .ListComp _ _ sc _ => sc
  | _ => { kind := .function, names := [], isGenerator := false, isCoroutine := false }
theorem cut_to {xs : List V} {i : Nat} (h : i ≤ xs.length) : cutV xs none (some (i : Int)) = xs.take i := by
  unfold cutV
  rw [HT.sIx_none, HT.sIx_nat, Nat.min_eq_left h]
  rfl
theorem Tab.push {H H4 : Hp} {c p : Addr} {rs : List Addr} {kss : List (List Int)} {ks : List Int} (t : Tab H c rs kss) (nc : c ∉ rs) (s : ∀ r ∈ rs, ∀ o, H r = some o → H4 r = some o) (hp : H p = none) (h4 : H4 p = some (.lst (ks.map V.int))) :
    Tab (upd H4 c (.lst (rs.map V.ref ++ [V.ref p]))) c (rs ++ [p]) (kss ++ [ks]) ∧ c ∉ rs ++ [p] := by
  have pc : c ≠ p := ne_of_none t.top hp
  have held : ∀ r ∈ rs, ∃ o, H r = some o := fun r hr => by
    obtain ⟨i, hi⟩ := List.getElem?_of_mem hr
    have h2 : i < kss.length := by rw [← t.len]; exact (List.getElem?_eq_some_iff.mp hi).1
    exact ⟨_, t.row i r _ hi (List.getElem?_eq_getElem h2)⟩
  have np : p ∉ rs := fun hr => by
    obtain ⟨o, e⟩ := held p hr
    rw [hp] at e
    cases e
  refine ⟨⟨?_, ?_, ?_, ?_⟩, ?_⟩
  · rw [upd_same, List.map_append]
    rfl
  · rw [List.length_append, List.length_append, t.len]
    rfl
  · intro i r ks' h1 h2
    by_cases hi : i < rs.length
    · rw [List.getElem?_append_left hi] at h1
      rw [List.getElem?_append_left (by rw [← t.len]; exact hi)] at h2
      have e := t.row i r ks' h1 h2
      have rc : r ≠ c := fun z => nc (by rw [← z]; exact List.mem_of_getElem? h1)
      rw [upd_ne rc]
      exact s r (List.mem_of_getElem? h1) _ e
    · rw [List.getElem?_append_right (by omega)] at h1
      rw [List.getElem?_append_right (by rw [← t.len]; omega)] at h2
      have i0 : i - rs.length = 0 := by
        have := (List.getElem?_eq_some_iff.mp h1).1
        simp at this
        omega
      rw [i0] at h1
      rw [← t.len, i0] at h2
      cases h1
      cases h2
      rw [upd_ne pc.symm]
      exact h4
  · rw [List.nodup_append]
    refine ⟨t.nd, by simp, fun a ha b hb => ?_⟩
    rw [List.mem_singleton] at hb
    subst hb
    exact fun z => np (by rw [← z]; exact ha)
  · rw [List.mem_append, List.mem_singleton]
    rintro (z | z)
    · exact nc z
    · exact pc z
theorem Fine.nil {k : Int} : Fine k [] := fun i ks h => by simp at h
theorem Fine.push {k : Int} {kss : List (List Int)} {ks : List Int} (f : Fine k kss) (l : ks.length = kss.length) (b : ∀ z ∈ ks, 0 ≤ z ∧ z < k) : Fine k (kss ++ [ks]) := by
  intro i ks' h
  by_cases hi : i < kss.length
  · rw [List.getElem?_append_left hi] at h
    exact f i ks' h
  · rw [List.getElem?_append_right (by omega)] at h
    have i0 : i - kss.length = 0 := by
      have := (List.getElem?_eq_some_iff.mp h).1
      simp at this
      omega
    rw [i0] at h
    cases h
    exact ⟨by omega, b⟩
theorem Tab.but {H H' : Hp} {c g : Addr} {rs : List Addr} {kss : List (List Int)} (t : Tab H c rs kss) (b : But g H H') (h1 : c ≠ g) (h2 : g ∉ rs) : Tab H' c rs kss :=
  ⟨b _ _ t.top h1, t.len, fun i r ks x y => b _ _ (t.row i r ks x y) fun z => h2 (by rw [← z]; exact List.mem_of_getElem? x), t.nd⟩
def natV (os : List Nat) : List V := os.map fun (j : Nat) => V.int (j : Int)
theorem seq_in {r : Int} {n : Nat} (h0 : 0 ≤ r) (h1 : r < n) : seqIndex? r n = some r.toNat := by
  unfold seqIndex?
  rw [if_neg (by omega : ¬ r < 0), if_pos (by simp [h0, h1])]
theorem rg_nat (n : Nat) : rgV 0 (n : Int) = natV (List.range n) := by
  unfold rgV natV
  rw [show ((n : Int) - 0).toNat = n by omega]
  exact List.map_congr_left fun j _ => by rw [Int.zero_add]
theorem erase_map : ∀ {os : List Nat} (k : Nat), (natV os).eraseIdx k = natV (os.eraseIdx k)
  | [], k => by cases k <;> rfl
  | a :: os, 0 => rfl
  | a :: os, k + 1 => congrArg (V.int (a : Int) :: ·) (erase_map (os := os) k)
theorem perm_erase : ∀ {l : List Nat} {k : Nat} {y : Nat}, l[k]? = some y → (y :: l.eraseIdx k).Perm l
  | [], k, y, h => by simp at h
  | a :: l, 0, y, h => by
    cases h
    exact .refl _
  | a :: l, k + 1, y, h => (List.Perm.swap a y (l.eraseIdx k)).trans (List.Perm.cons a (perm_erase (l := l) (k := k) h))
def ifBody : Stmt → List Stmt
  | .If _ b _ _ => b
  | _ => []
def forBody : Stmt → List Stmt
  | .For _ _ b _ _ => b
  | _ => []
theorem rep_one (n : Nat) (k : Int) : (List.replicate n [V.int k]).flatten = (List.replicate n k).map V.int := by
  induction n with
  | zero => rfl
  | succ n ih =>
    rw [List.replicate_succ, List.replicate_succ, List.flatten_cons, ih]
    rfl
theorem notin_new {H : Hp} {g : Addr} {n : Nat} {rs : List Addr} (G : Gen H g n) (nR : ∀ r ∈ rs, H r = none) : g ∉ rs := fun z => by
  obtain ⟨a, b, c, h1, _⟩ := G
  have := nR g z
  rw [h1] at this
  cases this
theorem but_free {H H' : Hp} {g p : Addr} {n' : Nat} (b : But g H H') (G' : Gen H' g n') (hp : H' p = none) : H p = none := by
  have pg : p ≠ g := (G'.ne hp).symm
  cases q : H p with
  | none => rfl
  | some o =>
    rw [b p o q pg] at hp
    cases hp
theorem Gen.same {H H' : Hp} {g : Addr} {n : Nat} (h : Gen H g n) (s : Same H H') : Gen H' g n := by
  obtain ⟨a, b, c, h1, r⟩ := h
  exact ⟨a, b, c, s _ _ h1, r⟩
theorem cut_one (xs : List V) : cutV xs (some 1) none = xs.drop 1 := by
  unfold cutV
  rw [HT.sIx_none, show HT.sIx xs.length 0 (some 1) = min 1 xs.length from HT.sIx_nat xs.length 0 1]
  cases xs with
  | nil => rfl
  | cons x xs =>
    have e : min 1 (x :: xs).length = 1 := by
      rw [List.length_cons]
      omega
    rw [e]
    exact List.take_of_length_le (by rw [List.length_drop]; omega)
theorem gen (H : Hp) {p : Addr} (h : H p = none) (o : HO) : ∃ H', upd H p o = H' ∧ Same H H' ∧ H' p = some o := ⟨_, rfl, same_new h, upd_same⟩
theorem one_le : 1 ≤ sizeLine := by decide
/-- the tie of two people -/
def tieN (kss : List (List Int)) (i j : Nat) : Int := (kss.getD (max i j) []).getD (min i j) 0
theorem tieN_comm (kss : List (List Int)) (i j : Nat) : tieN kss i j = tieN kss j i := by
  unfold tieN
  rw [Nat.max_comm, Nat.min_comm]
theorem tieN_in {k : Int} {kss : List (List Int)} (f : Fine k kss) {i j : Nat} (hi : i < kss.length) (hj : j < kss.length) (ne : i ≠ j) : 0 ≤ tieN kss i j ∧ tieN kss i j < k := by
  have hm : max i j < kss.length := by omega
  have e : kss.getD (max i j) [] = kss[max i j] := by rw [List.getD_eq_getElem?_getD, List.getElem?_eq_getElem hm]; rfl
  obtain ⟨a, b⟩ := f _ _ (List.getElem?_eq_getElem hm)
  have hl : min i j < kss[max i j].length := by omega
  unfold tieN
  rw [e, List.getD_eq_getElem?_getD, List.getElem?_eq_getElem hl]
  exact b _ (List.getElem_mem hl)
def spCheck : Sp := fun vs H Q _ => ∃ k : Int, vs = [.int k] ∧ 2 ≤ k ∧ k ≤ 9 ∧ Q .non H
def spCheckC (K : PySem.W.Frag) : Sp := fun vs H Q _ => ∃ (k : Int) (x : V) (d : PyData), vs = [.int k, x] ∧ 2 ≤ k ∧ k ≤ 9 ∧ Dt K H x d ∧ compOk k d = true ∧ ∀ H', Same H H' → Q .non H'
def spTie : Sp := fun vs H Q _ => ∃ (c : Addr) (rs : List Addr) (kss : List (List Int)) (k : Int) (one other : Nat), vs = [.ref c, .int one, .int other] ∧ Tab H c rs kss ∧ Fine k kss ∧ one < kss.length ∧ other < kss.length ∧ one ≠ other ∧ Q (.int (tieN kss one other)) H
structure Mat (H : Hp) (p : Addr) (ps : List Addr) (n : Nat) (f : Nat → Nat → V) : Prop where
  top : H p = some (.lst (ps.map V.ref))
  len : ps.length = n
  row : ∀ (i : Nat) (r : Addr), ps[i]? = some r → H r = some (.lst ((List.range n).map (f i)))
  nd : ps.Nodup
  np : p ∉ ps
theorem Mat.same {H H' : Hp} {p : Addr} {ps : List Addr} {n : Nat} {f : Nat → Nat → V} (m : Mat H p ps n f) (s : Same H H') : Mat H' p ps n f := ⟨s _ _ m.top, m.len, fun i r h => s _ _ (m.row i r h), m.nd, m.np⟩
theorem Mat.at {H : Hp} {p : Addr} {ps : List Addr} {n : Nat} {f : Nat → Nat → V} (m : Mat H p ps n f) {i : Nat} (hi : i < n) : ∃ r, ps[i]? = some r ∧ H r = some (.lst ((List.range n).map (f i))) := by
  have h2 : i < ps.length := by rw [m.len]; exact hi
  exact ⟨ps[i], List.getElem?_eq_getElem h2, m.row i _ (List.getElem?_eq_getElem h2)⟩
theorem Mat.congr {H : Hp} {p : Addr} {ps : List Addr} {n : Nat} {f g : Nat → Nat → V} (m : Mat H p ps n f) (e : ∀ i j, i < n → j < n → f i j = g i j) : Mat H p ps n g := ⟨m.top, m.len, fun i r h => by
  have hi : i < n := by rw [← m.len]; exact (List.getElem?_eq_some_iff.mp h).1
  rw [m.row i r h, List.map_congr_left fun j hj => e i j hi (List.mem_range.mp hj)], m.nd, m.np⟩
theorem Mat.set {H : Hp} {p r : Addr} {ps : List Addr} {n i j : Nat} {f : Nat → Nat → V} {v : V} (m : Mat H p ps n f) (hr : ps[i]? = some r) (hj : j < n) :
    Mat (upd H r (.lst (((List.range n).map (f i)).set j v))) p ps n fun a b => if a = i ∧ b = j then v else f a b := by
  have pr : p ≠ r := fun z => m.np (by rw [z]; exact List.mem_of_getElem? hr)
  refine ⟨by rw [upd_ne pr]; exact m.top, m.len, fun a q ha => ?_, m.nd, m.np⟩
  by_cases c : a = i
  · subst c
    rw [hr] at ha
    cases ha
    rw [upd_same]
    congr 2
    apply List.ext_getElem
    · rw [List.length_set, List.length_map, List.length_map]
    · intro b h1 h2
      rw [List.getElem_set, List.getElem_map, List.getElem_map, List.getElem_range]
      by_cases cb : j = b
      · subst cb
        rw [if_pos rfl, if_pos ⟨rfl, rfl⟩]
      · rw [if_neg cb, if_neg (fun z => cb z.2.symm)]
  · have qr : q ≠ r := fun z => by
      subst z
      have h1 := (List.getElem?_eq_some_iff.mp hr).1
      have h2 := (List.getElem?_eq_some_iff.mp ha).1
      have e := (List.getElem?_eq_some_iff.mp hr).2.trans (List.getElem?_eq_some_iff.mp ha).2.symm
      have nd := List.pairwise_iff_getElem.mp m.nd
      rcases Nat.lt_or_ge a i with z | z
      · exact nd a i h2 h1 z e.symm
      · exact nd i a h1 h2 (by omega) e
    rw [upd_ne qr, m.row a q ha]
    congr 2
    exact List.map_congr_left fun b _ => by rw [if_neg (fun z => c z.1)]
theorem ixN_nat {n j : Nat} (h : j < n) : ixN n (j : Int) = some j := by
  unfold ixN
  rw [if_pos (by omega), if_pos (by omega), Int.toNat_natCast]
def rLen (K : PySem.W.Frag) : List V → Hp → VK → Prop := fun xs H Q => ∃ p ys, xs = [.ref p] ∧ (SqL K H p ys ∨ SqT K H p ys) ∧ Q (.int ys.length) H
/-- the tie of two, none of one with itself -/
def tieV (kss : List (List Int)) (i j : Nat) : V := if i = j then .non else .int (tieN kss i j)
/-- the table when all above row m is put down, and r of row m -/
def ent (kss : List (List Int)) (m r i j : Nat) : V := if i ≠ j ∧ (max i j < m ∨ (max i j = m ∧ min i j < r)) then .int (tieN kss i j) else .non
theorem ent_zero (kss : List (List Int)) (i j : Nat) : ent kss 0 0 i j = .non := if_neg (by omega)
theorem ent_row (kss : List (List Int)) (m : Nat) : ent kss m m = ent kss (m + 1) 0 := by
  funext i j
  unfold ent
  by_cases h : i ≠ j ∧ (max i j < m ∨ (max i j = m ∧ min i j < m))
  · rw [if_pos h, if_pos (by omega)]
  · rw [if_neg h, if_neg (by omega)]
theorem ent_all (kss : List (List Int)) (n i j : Nat) (hi : i < n) (hj : j < n) : ent kss n 0 i j = tieV kss i j := by
  unfold ent tieV
  by_cases h : i = j
  · rw [if_neg (by omega), if_pos h]
  · rw [if_pos (by omega), if_neg h]
theorem ent_next (kss : List (List Int)) {m r : Nat} (h : r < m) : (fun a b => if a = m ∧ b = r then V.int (tieN kss m r) else (if a = r ∧ b = m then V.int (tieN kss m r) else ent kss m r a b)) = ent kss m (r + 1) := by
  funext i j
  unfold ent
  by_cases c1 : i = m ∧ j = r
  · obtain ⟨rfl, rfl⟩ := c1
    rw [if_pos ⟨rfl, rfl⟩, if_pos (by omega)]
  · rw [if_neg c1]
    by_cases c2 : i = r ∧ j = m
    · obtain ⟨rfl, rfl⟩ := c2
      rw [if_pos ⟨rfl, rfl⟩, if_pos (by omega), tieN_comm]
    · rw [if_neg c2]
      by_cases c3 : i ≠ j ∧ (max i j < m ∨ (max i j = m ∧ min i j < r))
      · rw [if_pos c3, if_pos (by omega)]
      · rw [if_neg c3, if_neg (by omega)]
theorem rep_non (n : Nat) : (List.replicate n [V.non]).flatten = List.replicate n V.non := by
  induction n with
  | zero => rfl
  | succ n ih =>
    rw [List.replicate_succ, List.replicate_succ, List.flatten_cons, ih]
    rfl
theorem rep_range (n : Nat) (v : V) : List.replicate n v = (List.range n).map fun _ => v := by
  apply List.ext_getElem
  · rw [List.length_replicate, List.length_map, List.length_range]
  · intro i h1 h2
    rw [List.getElem_replicate, List.getElem_map]
def spTies : Sp := fun vs H Q _ => ∃ (c : Addr) (rs : List Addr) (kss : List (List Int)) (k : Int), vs = [.ref c] ∧ Tab H c rs kss ∧ Fine k kss ∧ kss.length ≤ 100 ∧
  ∀ (p : Addr) (ps : List Addr) (H' : Hp), Same H H' → Mat H' p ps kss.length (tieV kss) → (∀ r ∈ ps, H r = none) → Q (.ref p) H'
theorem dts_ints {K : PySem.W.Frag} {H : Hp} : ∀ ks : List Int, Dts K H (ks.map V.int) (ks.map PyData.int)
  | [] => .nil
  | k :: ks => .cons (.int k) (dts_ints ks)
theorem dts_rows {K : PySem.W.Frag} {H : Hp} : ∀ {rs : List Addr} {kss : List (List Int)}, rs.length = kss.length → (∀ (i : Nat) r ks, rs[i]? = some r → kss[i]? = some ks → H r = some (.lst (ks.map V.int))) → Dts K H (rs.map V.ref) (kss.map rowP)
  | [], [], _, _ => .nil
  | [], _ :: _, l, _ => by simp at l
  | _ :: _, [], l, _ => by simp at l
  | r :: rs, ks :: kss, l, h => .cons (.lst (h 0 r ks rfl rfl) (dts_ints ks)) (dts_rows (Nat.succ.inj l) fun i r' ks' a b => h (i + 1) r' ks' a b)
theorem Tab.dt {K : PySem.W.Frag} {H : Hp} {c : Addr} {rs : List Addr} {kss : List (List Int)} (t : Tab H c rs kss) : Dt K H (.ref c) (tabP kss) := .lst t.top (dts_rows t.len t.row)
theorem rows_get {k : Int} {ds : List PyData} (n : Nat) : rowsOk k n ds = true ↔ ∀ (j : Nat) (d : PyData), ds[j]? = some d → rowOk k ((n + j : Nat) : Int) d = true := by
  induction ds generalizing n with
  | nil => exact ⟨fun _ j d h => by simp at h, fun _ => rfl⟩
  | cons a ds ih =>
    show (rowOk k n a && rowsOk k (n + 1) ds) = true ↔ _
    rw [Bool.and_eq_true, ih]
    constructor
    · rintro ⟨h1, h2⟩ j d h
      cases j with
      | zero =>
        cases h
        exact h1
      | succ j =>
        have := h2 j d h
        rwa [show n + 1 + j = n + (j + 1) by omega] at this
    · intro h
      refine ⟨h 0 a rfl, fun j d hd => ?_⟩
      have := h (j + 1) d hd
      rwa [show n + (j + 1) = n + 1 + j by omega] at this
theorem Fine.comp {k : Int} {kss : List (List Int)} (f : Fine k kss) (h1 : 1 ≤ kss.length) (h2 : kss.length ≤ 40) : compOk k (tabP kss) = true := by
  unfold tabP
  show ((decide (1 ≤ (kss.map rowP).length) && decide ((kss.map rowP).length ≤ 40)) && rowsOk k 0 (kss.map rowP)) = true
  rw [List.length_map, decide_eq_true h1, decide_eq_true h2, (rows_get 0).mpr]
  · rfl
  · intro j d hd
    rw [List.getElem?_map] at hd
    cases e : kss[j]? with
    | none =>
      rw [e] at hd
      cases hd
    | some ks =>
      rw [e] at hd
      cases hd
      obtain ⟨a, b⟩ := f j ks e
      show (decide (((ks.map PyData.int).length : Int) = ((0 + j : Nat) : Int)) && (ks.map PyData.int).all (below k)) = true
      rw [List.length_map, decide_eq_true (by omega), List.all_map]
      refine List.all_eq_true.mpr fun z hz => ?_
      obtain ⟨z0, z1⟩ := b z hz
      show (decide (0 ≤ z) && decide (z < k)) = true
      rw [decide_eq_true z0, decide_eq_true z1]
      rfl
def nums (l : List Nat) : List Int := l.map fun (j : Nat) => (j : Int)
theorem natV_nums (l : List Nat) : natV l = (nums l).map V.int := by
  unfold natV nums
  rw [List.map_map]
  rfl
def rLstL (K : PySem.W.Frag) : List V → Hp → VK → Prop := fun xs H Q => ∃ p ys, xs = [.ref p] ∧ SqL K H p ys ∧ ∀ l, H l = none → Q (.ref l) (upd H l (.lst ys))
theorem call_lstL {X : Cx} : CallR X (.type "list") (rLstL X.K) := fun pins s σ H xs us Q I r ⟨p, ys, e, a, b⟩ => call_list_of pins s σ H xs us Q I r ⟨p, ys, e, .inl a, b⟩
def cplTo (n : Nat) : Nat → List (Nat × Nat)
  | 0 => []
  | m + 1 => cplTo n m ++ (List.range (n - (m + 1))).map fun j => (m, m + 1 + j)
theorem cpl_mem (n : Nat) : ∀ (m : Nat) (a b : Nat), (a, b) ∈ cplTo n m ↔ a < m ∧ a < b ∧ b < n
  | 0, a, b => by
    show (a, b) ∈ [] ↔ _
    simp
  | m + 1, a, b => by
    show (a, b) ∈ cplTo n m ++ (List.range (n - (m + 1))).map (fun j => (m, m + 1 + j)) ↔ _
    rw [List.mem_append, cpl_mem n m, List.mem_map]
    constructor
    · rintro (h | ⟨j, hj, e⟩)
      · omega
      · cases e
        have := List.mem_range.mp hj
        omega
    · intro h
      by_cases c : a < m
      · exact .inl (by omega)
      · refine .inr ⟨b - (m + 1), List.mem_range.mpr (by omega), ?_⟩
        have h1 : m = a := by omega
        have h2 : m + 1 + (b - (m + 1)) = b := by omega
        rw [h2, h1]
theorem cpl_len (n : Nat) : ∀ m, (cplTo n m).length ≤ m * n
  | 0 => Nat.zero_le _
  | m + 1 => by
    show (cplTo n m ++ (List.range (n - (m + 1))).map fun j => (m, m + 1 + j)).length ≤ _
    rw [List.length_append, List.length_map, List.length_range, Nat.succ_mul]
    have := cpl_len n m
    omega
structure Cpls (H0 H : Hp) (a : Addr) (ts : List (Addr × Nat × Nat)) : Prop where
  top : H a = some (.lst (ts.map fun t => V.ref t.1))
  row : ∀ t ∈ ts, H t.1 = some (.tup [.int (t.2.1 : Nat), .int (t.2.2 : Nat)])
  new : ∀ t ∈ ts, H0 t.1 = none
def alikeB (kss : List (List Int)) (a b : Nat) : Bool := (List.range kss.length).all fun m => m == a || m == b || decide (tieN kss m a = tieN kss m b)
theorem rows_nodup {H : Hp} {rs : List Addr} {kss : List (List Int)} {k : Int} (f : Fine k kss) (l : rs.length = kss.length) (row : ∀ (i : Nat) (r : Addr) (ks : List Int), rs[i]? = some r → kss[i]? = some ks → H r = some (.lst (ks.map V.int))) : rs.Nodup := by
  refine List.pairwise_iff_getElem.mpr fun i j hi hj lt e => ?_
  have h1 := row i _ _ (List.getElem?_eq_getElem hi) (List.getElem?_eq_getElem (by omega : i < kss.length))
  have h2 := row j _ _ (List.getElem?_eq_getElem hj) (List.getElem?_eq_getElem (by omega : j < kss.length))
  rw [e, h2] at h1
  have h3 := congrArg List.length (HO.lst.inj (Option.some.inj h1))
  rw [List.length_map, List.length_map] at h3
  have a := (f i _ (List.getElem?_eq_getElem (by omega : i < kss.length))).1
  have b := (f j _ (List.getElem?_eq_getElem (by omega : j < kss.length))).1
  omega
theorem Tab.made {H : Hp} {c : Addr} {rs : List Addr} {kss : List (List Int)} {k : Int} (f : Fine k kss) (l : rs.length = kss.length) (top : H c = some (.lst (rs.map V.ref))) (row : ∀ (i : Nat) (r : Addr) (ks : List Int), rs[i]? = some r → kss[i]? = some ks → H r = some (.lst (ks.map V.int))) : Tab H c rs kss :=
  ⟨top, l, row, rows_nodup f l row⟩
def fineB (k : Int) (kss : List (List Int)) : Bool := (List.range kss.length).all fun i => decide ((kss.getD i []).length = i) && (kss.getD i []).all fun z => decide (0 ≤ z) && decide (z < k)
theorem fine_of {k : Int} {kss : List (List Int)} (h : fineB k kss = true) : Fine k kss := fun i ks e => by
  have il := (List.getElem?_eq_some_iff.mp e).1
  have := List.all_eq_true.mp h i (List.mem_range.mpr il)
  rw [List.getD_eq_getElem?_getD, e] at this
  show ks.length = i ∧ _
  have t2 : (decide (ks.length = i) && ks.all fun z => decide (0 ≤ z) && decide (z < k)) = true := this
  rw [Bool.and_eq_true] at t2
  refine ⟨of_decide_eq_true t2.1, fun z hz => ?_⟩
  have := List.all_eq_true.mp t2.2 z hz
  rw [Bool.and_eq_true] at this
  exact ⟨of_decide_eq_true this.1, of_decide_eq_true this.2⟩
theorem inV_nat (l : List Nat) (p : Nat) : inV (.int (p : Nat)) (natV l) = decide (p ∈ l) := by
  unfold inV natV
  induction l with
  | nil => rfl
  | cons a l ih =>
    rw [List.map_cons, List.any_cons, ih]
    show (((a : Nat) : Int) == (p : Int) || decide (p ∈ l)) = decide (p ∈ a :: l)
    by_cases h : a = p
    · subst h
      simp
    · have h' : ¬ p = a := fun z => h z.symm
      have h2 : ¬ (a : Int) = (p : Int) := by omega
      simp [h', h2]
theorem flat_nat (l : List Nat) : (natV l).all flatV = true := by
  unfold natV
  rw [List.all_map]
  exact List.all_eq_true.mpr fun _ _ => rfl
def pairT (c : Nat × Nat) : List V := [.int (c.1 : Nat), .int (c.2 : Nat)]
theorem choices_two (n : Nat) : ∀ d m, m + d = n → (cplTo n n).map (fun c => [c.1, c.2]) = (cplTo n m).map (fun c => [c.1, c.2]) ++ Cmb.combs n 2 d m
  | 0, m, h => by
    have : m = n := by omega
    subst this
    rw [Cmb.combs, List.append_nil]
  | d + 1, m, h => by
    rw [choices_two n d (m + 1) (by omega), Cmb.combs]
    have e1 : ∀ d lo, Cmb.combs n 1 d lo = (List.range d).map fun j => [lo + j] := fun d => by
      induction d with
      | zero => intro lo; rw [Cmb.combs]; rfl
      | succ d ih =>
        intro lo
        rw [Cmb.combs, ih (lo + 1), List.range_succ_eq_map, List.map_cons, List.map_map]
        have e0 : Cmb.combs n 0 d (lo + 1) = [[]] := by cases d <;> (rw [Cmb.combs])
        rw [e0]
        show [lo] :: _ = [lo + 0] :: _
        rw [Nat.add_zero]
        congr 1
        exact List.map_congr_left fun j _ => by show [lo + 1 + j] = [lo + (j + 1)]; rw [show lo + 1 + j = lo + (j + 1) by omega]
    show (cplTo n m ++ (List.range (n - (m + 1))).map fun j => (m, m + 1 + j)).map _ ++ _ = _
    rw [List.map_append, List.append_assoc, e1, List.map_map, List.map_map, show n - (m + 1) = d by omega]
    rfl
theorem Cpls.same {H0 H H' : Hp} {a : Addr} {ts : List (Addr × Nat × Nat)} (r : Cpls H0 H a ts) (s : Same H H') : Cpls H0 H' a ts := ⟨s _ _ r.top, fun t ht => s _ _ (r.row t ht), r.new⟩
theorem Cpls.push {H0 H H' : Hp} {D p : Addr} {ts : List (Addr × Nat × Nat)} {c : Nat × Nat} (R : Cpls H0 H D ts) (s : Same H H') (hp : H p = none) (h0 : H0 p = none) (f : H' p = some (.tup (pairT c))) : Cpls H0 (upd H' D (.lst ((ts.map fun t => V.ref t.1) ++ [V.ref p]))) D (ts ++ [(p, c)]) := by
  have Dp : D ≠ p := ne_of_none R.top hp
  refine ⟨?_, ?_, ?_⟩
  · rw [upd_same, List.map_append]
    rfl
  · intro u hu
    rcases List.mem_append.mp hu with hu | hu
    · have h0 := R.row u hu
      have uD : u.1 ≠ D := ne_of h0 R.top (by intro z; cases z)
      rw [upd_ne uD]
      exact s _ _ h0
    · rw [List.mem_singleton] at hu
      subst hu
      show upd H' D _ p = _
      rw [upd_ne Dp.symm]
      exact f
  · intro u hu
    rcases List.mem_append.mp hu with hu | hu
    · exact R.new u hu
    · rw [List.mem_singleton] at hu
      subst hu
      exact h0
theorem Cpls.back {H0 H1 H : Hp} {a : Addr} {ts : List (Addr × Nat × Nat)} (r : Cpls H1 H a ts) (s : Same H0 H1) : Cpls H0 H a ts := ⟨r.top, r.row, fun t ht => s.free (r.new t ht)⟩
theorem Tab.entry {H : Hp} {c : Addr} {rs : List Addr} {kss : List (List Int)} {k : Int} (t : Tab H c rs kss) (fine : Fine k kss) {i j : Nat} (hi : i < j) (hj : j < kss.length) :
    ∃ (r : Addr) (ks : List Int), atI (rs.map V.ref) ((j : Nat) : Int) = some (.ref r) ∧ H r = some (.lst (ks.map V.int)) ∧ atI (ks.map V.int) ((i : Nat) : Int) = some (.int (tieN kss j i)) := by
  obtain ⟨r, ks, a1, a2, a3⟩ := t.at hj
  obtain ⟨lk, _⟩ := fine _ _ a2
  have il : i < ks.length := by omega
  refine ⟨r, ks, atI_nat (by rw [List.getElem?_map, a1]; rfl), a3, atI_nat ?_⟩
  have ez : tieN kss j i = ks[i] := by
    have eA : kss.getD (max j i) [] = ks := by rw [List.getD_eq_getElem?_getD, Nat.max_eq_left (by omega), a2]; rfl
    unfold tieN
    rw [eA, Nat.min_eq_right (by omega), List.getD_eq_getElem?_getD, List.getElem?_eq_getElem il]
    rfl
  rw [List.getElem?_map, List.getElem?_eq_getElem il, ez]
  rfl
theorem cpl_take {f : Nat × Nat → Bool} {l : List (Nat × Nat)} {i : Nat} {c : Nat × Nat} (e : l[i]? = some c) : (l.take (i + 1)).filter f = (l.take i).filter f ++ (if f c then [c] else []) := by
  rw [List.take_add_one, e, List.filter_append]
  congr 1
  show [c].filter f = _
  cases h : f c <;> simp [h]
def Im (mg : Str → Option Value) : Prop := mg "combinations" = some (.type "itertools.combinations")
theorem seq_by {a b : TS} {D : Ends} {σ : L2.St} {H : Hp} (R : L2.St → Hp → Prop) (h1 : ∀ nx : L2.St → Hp → Prop, (∀ σ' H', R σ' H' → nx σ' H') → a { D with nx := nx } σ H) (h2 : ∀ σ' H', R σ' H' → b D σ' H') : tSeq a b D σ H := h1 _ h2
theorem alike_comm (kss : List (List Int)) (a b : Nat) : alikeB kss a b = alikeB kss b a := by
  unfold alikeB
  congr 1
  funext m
  rw [Bool.or_comm (m == a) (m == b)]
  congr 1
  by_cases h : tieN kss m a = tieN kss m b
  · simp [h]
  · have : ¬ tieN kss m b = tieN kss m a := fun z => h z.symm
    simp [h, this]
theorem nat_dt {K : PySem.W.Frag} {H : Hp} {o : Addr} {l : List Nat} (h : H o = some (.lst (natV l))) : Dt K H (.ref o) (rowP (nums l)) := .lst h (by rw [natV_nums]; exact dts_ints _)
theorem nice_tab {k : Int} {kss : List (List Int)} (f : Fine k kss) (hk : k ≤ 9) (l : kss.length ≤ 40) : Nice 3 (tabP kss) := (Nice.list (n := 1) (by rw [List.length_map]; omega) fun e he => by
  obtain ⟨ks, hks, rfl⟩ := List.mem_map.mp he
  obtain ⟨i, hi, e⟩ := List.getElem_of_mem hks
  obtain ⟨a, b⟩ := f i ks (by rw [List.getElem?_eq_getElem hi, e])
  exact Nice.list (by rw [List.length_map]; omega) fun z hz => by
    obtain ⟨x, hx, rfl⟩ := List.mem_map.mp hz
    obtain ⟨x0, x1⟩ := b x hx
    exact Nice.leaf (by show x.natAbs < 2 ^ 100; omega)).up
/-- the six ties of four -/
def sixL (kss : List (List Int)) (l : List Nat) : List Int :=
  [tieN kss (l.getD 0 0) (l.getD 1 0), tieN kss (l.getD 0 0) (l.getD 2 0), tieN kss (l.getD 0 0) (l.getD 3 0), tieN kss (l.getD 1 0) (l.getD 2 0), tieN kss (l.getD 1 0) (l.getD 3 0), tieN kss (l.getD 2 0) (l.getD 3 0)]
/-- of ab ac ad bc bd cd: no two stand alike -/
def firmB (ab ac ad bc bd cd : Int) : Bool := !((ac == bc && ad == bd) || ((ab == bc && ad == cd) || ((ab == bd && ac == cd) || ((ab == ac && bd == cd) || ((ab == ad && bc == cd) || (ac == ad && bc == bd))))))
def firmL (l : List Int) : Bool := firmB (l.getD 0 0) (l.getD 1 0) (l.getD 2 0) (l.getD 3 0) (l.getD 4 0) (l.getD 5 0)
/-- an expression that is just this bool -/
def Pu (t : TE) (σ : L2.St) (H : Hp) (b : Bool) : Prop := ∀ Q : VK, Q (.bl b) H → t σ H Q
theorem Pu.and {a b : TE} {σ : L2.St} {H : Hp} {x y : Bool} (h1 : Pu a σ H x) (h2 : Pu b σ H y) : Pu (tAndV a b) σ H (x && y) := fun Q q => h1 _ ⟨x, rfl, by
  cases x with
  | true => exact h2 _ q
  | false => exact q⟩
theorem Pu.or {a b : TE} {σ : L2.St} {H : Hp} {x y : Bool} (h1 : Pu a σ H x) (h2 : Pu b σ H y) : Pu (tOrV a b) σ H (x || y) := fun Q q => h1 _ ⟨x, rfl, by
  cases x with
  | true => exact q
  | false => exact h2 _ q⟩
theorem Pu.not {a : TE} {σ : L2.St} {H : Hp} {x : Bool} (h1 : Pu a σ H x) : Pu (tNotV a) σ H (!x) := fun Q q => h1 _ ⟨x, rfl, q⟩
theorem Pu.eq {i j : Nat} {σ : L2.St} {H : Hp} {x y : Int} (h1 : σ[i]? = some (some (.int x))) (h2 : σ[j]? = some (some (.int y))) : Pu (tOp rEq (tVar i) (tVar j)) σ H (x == y) := fun Q q => ⟨_, h1, _, h2, rfl, by rw [dec_int]; exact q⟩
def spSix : Sp := fun vs H Q _ => ∃ (m T : Addr) (ps : List Addr) (kss : List (List Int)) (a b c d : Nat), vs = [.ref m, .ref T] ∧ Mat H m ps kss.length (tieV kss) ∧ H T = some (.tup (Cmb.natT [a, b, c, d])) ∧ a < b ∧ b < c ∧ c < d ∧ d < kss.length ∧
  ∀ p, H p = none → Q (.ref p) (upd H p (.lst ((sixL kss [a, b, c, d]).map V.int)))
def spFirm : Sp := fun vs H Q _ => ∃ (p : Addr) (ab ac ad bc bd cd : Int), vs = [.ref p] ∧ H p = some (.lst ([ab, ac, ad, bc, bd, cd].map V.int)) ∧ Q (.bl (firmB ab ac ad bc bd cd)) H
theorem combs_up (n : Nat) : ∀ r d lo, lo + d = n → ∀ l ∈ Cmb.combs n r d lo, l.Pairwise (· < ·)
  | 0, d, lo, _, l, h => by
    cases d <;> (rw [Cmb.combs] at h; rw [List.mem_singleton] at h; rw [h]; exact List.Pairwise.nil)
  | r + 1, 0, lo, _, l, h => by
    rw [Cmb.combs] at h
    cases h
  | r + 1, d + 1, lo, e, l, h => by
    rw [Cmb.combs, List.mem_append, List.mem_map] at h
    rcases h with ⟨t, ht, rfl⟩ | h
    · exact List.pairwise_cons.mpr ⟨fun j hj => by
        have := Cmb.combs_low n r d (lo + 1) (by omega) t ht j hj
        omega, combs_up n r d (lo + 1) (by omega) t ht⟩
    · exact combs_up n (r + 1) d (lo + 1) (by omega) l h
theorem combs_many (n : Nat) : ∀ r d lo, (Cmb.combs n r d lo).length ≤ (d + 1) ^ r
  | 0, d, lo => by
    cases d <;> (rw [Cmb.combs]; exact Nat.le_refl _)
  | r + 1, 0, lo => by
    rw [Cmb.combs]
    exact Nat.zero_le _
  | r + 1, d + 1, lo => by
    rw [Cmb.combs, List.length_append, List.length_map]
    have h1 := combs_many n r d (lo + 1)
    have h2 := combs_many n (r + 1) d (lo + 1)
    rw [Nat.pow_succ] at h2 ⊢
    have h3 : (d + 1) ^ r ≤ (d + 1 + 1) ^ r := Nat.pow_le_pow_left (Nat.le_succ _) r
    have h4 : (d + 1) ^ r + (d + 1) ^ r * (d + 1) = (d + 1) ^ r * (d + 1 + 1) := by
      generalize (d + 1) ^ r = x
      generalize d + 1 = y
      rw [Nat.mul_add_one, Nat.add_comm]
    have h5 : (d + 1) ^ r * (d + 1 + 1) ≤ (d + 1 + 1) ^ r * (d + 1 + 1) := Nat.mul_le_mul_right _ h3
    omega
theorem four_of {n : Nat} {l : List Nat} (h : l ∈ Cmb.choices n 4) : ∃ a b c d, l = [a, b, c, d] ∧ a < b ∧ b < c ∧ c < d ∧ d < n := by
  have h1 := Cmb.choices_len h
  have h2 := combs_up n 4 n 0 (Nat.zero_add n) l h
  have h3 := Cmb.choices_low h
  match l, h1 with
  | [a, b, c, d], _ =>
    refine ⟨a, b, c, d, rfl, ?_, ?_, ?_, h3 d (by simp)⟩
    all_goals simp at h2
    all_goals omega
abbrev FourT := Addr × Addr × Addr × List Nat
structure Frs (f : List Nat → List Int) (H0 H : Hp) (a : Addr) (ts : List FourT) : Prop where
  top : H a = some (.lst (ts.map fun t => V.ref t.1))
  row : ∀ t ∈ ts, H t.1 = some (.tup [.ref t.2.1, .ref t.2.2.1]) ∧ H t.2.1 = some (.lst (natV t.2.2.2)) ∧ H t.2.2.1 = some (.lst ((f t.2.2.2).map V.int))
  new : ∀ t ∈ ts, H0 t.1 = none ∧ H0 t.2.1 = none ∧ H0 t.2.2.1 = none
  sep : ∀ t ∈ ts, a ≠ t.1 ∧ a ≠ t.2.1 ∧ a ≠ t.2.2.1
theorem Frs.same {f : List Nat → List Int} {H0 H H' : Hp} {a : Addr} {ts : List FourT} (r : Frs f H0 H a ts) (s : Same H H') : Frs f H0 H' a ts := ⟨s _ _ r.top, fun t ht => ⟨s _ _ (r.row t ht).1, s _ _ (r.row t ht).2.1, s _ _ (r.row t ht).2.2⟩, r.new, r.sep⟩
theorem Frs.back {f : List Nat → List Int} {H0 H1 H : Hp} {a : Addr} {ts : List FourT} (r : Frs f H1 H a ts) (s : Same H0 H1) : Frs f H0 H a ts := ⟨r.top, r.row, fun t ht => ⟨s.free (r.new t ht).1, s.free (r.new t ht).2.1, s.free (r.new t ht).2.2⟩, r.sep⟩
theorem Frs.push {f : List Nat → List Int} {H0 H H' : Hp} {D t o s : Addr} {l : List Nat} {ts : List FourT} (R : Frs f H0 H D ts) (sm : Same H H') (dt : D ≠ t) (dO : D ≠ o) (ds : D ≠ s) (n0 : H0 t = none ∧ H0 o = none ∧ H0 s = none)
    (h1 : H' t = some (.tup [.ref o, .ref s])) (h2 : H' o = some (.lst (natV l))) (h3 : H' s = some (.lst ((f l).map V.int))) :
    Frs f H0 (upd H' D (.lst ((ts.map fun t => V.ref t.1) ++ [V.ref t]))) D (ts ++ [(t, o, s, l)]) := by
  refine ⟨?_, ?_, ?_, ?_⟩
  · rw [upd_same, List.map_append]
    rfl
  · intro u hu
    rcases List.mem_append.mp hu with hu | hu
    · obtain ⟨a1, a2, a3⟩ := R.row u hu
      obtain ⟨e1, e2, e3⟩ := R.sep u hu
      rw [upd_ne e1.symm, upd_ne e2.symm, upd_ne e3.symm]
      exact ⟨sm _ _ a1, sm _ _ a2, sm _ _ a3⟩
    · rw [List.mem_singleton] at hu
      subst hu
      show upd H' D _ t = _ ∧ upd H' D _ o = _ ∧ upd H' D _ s = _
      rw [upd_ne dt.symm, upd_ne dO.symm, upd_ne ds.symm]
      exact ⟨h1, h2, h3⟩
  · intro u hu
    rcases List.mem_append.mp hu with hu | hu
    · exact R.new u hu
    · rw [List.mem_singleton] at hu
      subst hu
      exact n0
  · intro u hu
    rcases List.mem_append.mp hu with hu | hu
    · exact R.sep u hu
    · rw [List.mem_singleton] at hu
      subst hu
      exact ⟨dt, dO, ds⟩
/-- the lists of the fours are all unlike -/
def cells (ts : List FourT) : List Addr := ts.flatMap fun t => [t.2.1, t.2.2.1]
theorem cells_mem {ts : List FourT} {x : Addr} : x ∈ cells ts ↔ ∃ t ∈ ts, x = t.2.1 ∨ x = t.2.2.1 := by
  unfold cells
  rw [List.mem_flatMap]
  constructor
  · rintro ⟨t, ht, h⟩
    exact ⟨t, ht, by simpa using h⟩
  · rintro ⟨t, ht, h⟩
    exact ⟨t, ht, by simpa using h⟩
theorem cells_push {f : List Nat → List Int} {H0 H : Hp} {D t o s : Addr} {l : List Nat} {ts : List FourT} (R : Frs f H0 H D ts) (nd : (cells ts).Nodup) (ho : H o = none) (hs : H s = none) (os : o ≠ s) : (cells (ts ++ [(t, o, s, l)])).Nodup := by
  have e : cells (ts ++ [(t, o, s, l)]) = cells ts ++ [o, s] := by
    unfold cells
    rw [List.flatMap_append]
    rfl
  have out : ∀ x ∈ cells ts, ∃ v, H x = some v := fun x hx => by
    obtain ⟨u, hu, z⟩ := cells_mem.mp hx
    obtain ⟨a1, a2, a3⟩ := R.row u hu
    rcases z with rfl | rfl
    · exact ⟨_, a2⟩
    · exact ⟨_, a3⟩
  rw [e, List.nodup_append]
  refine ⟨nd, by simp [os], fun a ha b hb z => ?_⟩
  subst z
  obtain ⟨v, hv⟩ := out a ha
  rcases List.mem_cons.mp hb with rfl | hb
  · rw [ho] at hv
    cases hv
  · rw [List.mem_singleton] at hb
    subst hb
    rw [hs] at hv
    cases hv
def rLstT (K : PySem.W.Frag) : List V → Hp → VK → Prop := fun xs H Q => ∃ p ys, xs = [.ref p] ∧ SqT K H p ys ∧ ∀ l, H l = none → Q (.ref l) (upd H l (.lst ys))
theorem call_lstT {X : Cx} : CallR X (.type "list") (rLstT X.K) := fun pins s σ H xs us Q I r ⟨p, ys, e, a, b⟩ => call_list_of pins s σ H xs us Q I r ⟨p, ys, e, .inr a, b⟩
theorem sub_flat {α β : Type} {l m : List α} (h : l.Sublist m) (f : α → List β) : (l.flatMap f).Sublist (m.flatMap f) := by
  induction h with
  | slnil => exact List.Sublist.refl _
  | cons a _ ih =>
    rw [List.flatMap_cons]
    exact ih.trans (List.sublist_append_right _ _)
  | cons_cons a _ ih =>
    rw [List.flatMap_cons, List.flatMap_cons]
    exact (List.Sublist.refl _).append ih
def firmK (kss : List (List Int)) : List (List Nat) := (Cmb.choices kss.length 4).filter fun l => firmL (sixL kss l)
def spFirmIn : Sp := fun vs H Q _ => ∃ (m : Addr) (ps : List Addr) (kss : List (List Int)), vs = [.ref m] ∧ Mat H m ps kss.length (tieV kss) ∧ kss.length ≤ 14 ∧
  ∀ (p : Addr) (ts : List FourT) (H' : Hp), Same H H' → H p = none → Frs (sixL kss) H H' p ts → (cells ts).Nodup → ts.map (·.2.2.2) = firmK kss → Q (.ref p) H'
def spFours : Sp := fun vs H Q _ => ∃ (k : Int) (c : Addr) (rs : List Addr) (kss : List (List Int)), vs = [.int k, .ref c] ∧ 2 ≤ k ∧ k ≤ 9 ∧ Tab H c rs kss ∧ Fine k kss ∧ 1 ≤ kss.length ∧ kss.length ≤ 14 ∧
  ∀ (p : Addr) (ts : List FourT) (H' : Hp), Same H H' → H p = none → Frs (sixL kss) H H' p ts → (cells ts).Nodup → ts.map (·.2.2.2) = firmK kss → Q (.ref p) H'
end
end GL

namespace GL
open PySem PySem.Spec PyProof.Rows L2
theorem hid_upd {H : Hp} {f : Addr} {o : HO} : hid (upd H f o) f = hid H f := by
  funext b
  unfold hid
  by_cases h : b = f
  · rw [if_pos h, if_pos h]
  · rw [if_neg h, if_neg h, upd_ne h]
theorem hid_mono {H H' : Hp} {f : Addr} (s : Same H H') : Same (hid H f) (hid H' f) := fun b o e => by
  have n := hid_none e
  rw [hid_ne n] at e ⊢
  exact s b o e
theorem hid_in {H : Hp} {f b : Addr} {o : HO} (e : H b = some o) (n : b ≠ f) : hid H f b = some o := by rw [hid_ne n]; exact e
/-- a test by what it leads to -/
theorem if_by {tc : TT} {t u : TS} {D : Ends} {σ : L2.St} {H : Hp} (R : Bool → Hp → Prop) (h1 : ∀ Q' : Bool → Hp → Prop, (∀ b H', R b H' → Q' b H') → tc σ H Q') (h2 : ∀ H', R true H' → t D σ H') (h3 : ∀ H', R false H' → u D σ H') : tIfS tc t u D σ H :=
  h1 _ fun b H' r => by
    cases b with
    | true => exact iteT (h2 H' r)
    | false => exact iteF (h3 H' r)
section
variable {J : It} {n : Nat} {G : Hp → Prop} {Y : Nat → Hp → V → Hp → Prop}
theorem filt_more (p : Nat → Bool) (f : Nat → V) (n : Nat) : ((List.range (n + 1)).filter p).map f = ((List.range n).filter p).map f ++ (if p n then [f n] else []) := by
  rw [List.range_succ, List.filter_append, List.map_append]
  congr 1
  cases h : p n <;> simp [h]
/-- a comprehension of plain values, some kept -/
theorem lc_keep (w : Walk J n G Y) {g : TG} {tt : TT} {te : TE} {vs : List Nat} {σ : L2.St} {H1 : Hp} {D : Addr} {Qd : Hp → Prop} (p : Nat → Bool) (f : Nat → V) (hD : H1 D = none) (hn : n ≤ sizeLine)
    (hG : ∀ H', Same H1 H' → G H')
    (hs : ∀ (i : Nat) (x : V) (H2 H3 : Hp) (N : V → Hp → Prop) (M : Hp → Prop), i < n → Same H1 H2 → Y i H2 x H3 → (∀ H4, p i = true → Same H2 H4 → N (f i) H4) → (∀ H4, p i = false → Same H2 H4 → M H4) →
      g x (wipe σ vs) H3 fun σ2 H4 => wipe σ2 vs = wipe σ vs ∧ tt σ2 H4 fun b H5 => if b = true then te σ2 H5 N else M H5)
    (hd : ∀ H', Same H1 H' → H' D = some (.lst (((List.range n).filter p).map f)) → Qd H') :
    ∃ W : Nat → Nat → Hp → Prop, (∃ m, W 0 m (upd H1 D (.lst []))) ∧ ∀ i m H, W i m H →
      (J.stop i H ∧ Qd H) ∨ (J.go i H ∧ ∃ Nx : Hp → Prop, (∀ H', Nx H' → ∃ m', m' < m ∧ W (i + 1) m' H') ∧ ∀ x H', J.yld i H x H' → g x (wipe σ vs) H' fun σ2 H2 => wipe σ2 vs = wipe σ vs ∧ tt σ2 H2 fun b H3 =>
        if b = true then te σ2 H3 fun y H4 => ∃ acc, H4 D = some (.lst acc) ∧ acc.length < sizeLine ∧ Nx (upd H4 D (.lst (acc ++ [y]))) else Nx H3) := by
  refine lc_it w (fun i H' => Same H1 H' ∧ H' D = some (.lst (((List.range i).filter p).map f))) ⟨same_new hD, upd_same⟩ (fun i H' _ z => hG H' z.1) ?_ fun H' z => hd H' z.1 z.2
  rintro i x H2 H3 hi ⟨s, e⟩ y
  refine hs i x H2 H3 _ _ hi s y (fun H4 k s4 => ?_) (fun H4 k s4 => ?_)
  · refine ⟨_, s4 _ _ e, ?_, fun b o e' => ?_, ?_⟩
    · rw [List.length_map]
      have := List.length_filter_le p (List.range i)
      rw [List.length_range] at this
      omega
    · rw [upd_ne (ne_of_none e' hD)]
      exact s4 _ _ (s _ _ e')
    · rw [upd_same, filt_more, k, if_pos rfl]
  · refine ⟨s.trans s4, ?_⟩
    rw [filt_more, k, if_neg (by decide), List.append_nil]
    exact s4 _ _ e
theorem filt_all {f : Nat → V} {n : Nat} : ((List.range n).filter fun _ => true).map f = (List.range n).map f := by
  rw [List.filter_eq_self.mpr fun _ _ => rfl]
/-- a comprehension of plain values -/
theorem lc_vals (w : Walk J n G Y) {g : TG} {te : TE} {vs : List Nat} {σ : L2.St} {H1 : Hp} {D : Addr} {Qd : Hp → Prop} (f : Nat → V) (hD : H1 D = none) (hn : n ≤ sizeLine)
    (hG : ∀ H', Same H1 H' → G H')
    (hs : ∀ (i : Nat) (x : V) (H2 H3 : Hp) (N : V → Hp → Prop), i < n → Same H1 H2 → Y i H2 x H3 → (∀ H4, Same H2 H4 → N (f i) H4) →
      g x (wipe σ vs) H3 fun σ2 H4 => wipe σ2 vs = wipe σ vs ∧ te σ2 H4 N)
    (hd : ∀ H', Same H1 H' → H' D = some (.lst ((List.range n).map f)) → Qd H') :
    ∃ W : Nat → Nat → Hp → Prop, (∃ m, W 0 m (upd H1 D (.lst []))) ∧ ∀ i m H, W i m H →
      (J.stop i H ∧ Qd H) ∨ (J.go i H ∧ ∃ Nx : Hp → Prop, (∀ H', Nx H' → ∃ m', m' < m ∧ W (i + 1) m' H') ∧ ∀ x H', J.yld i H x H' → g x (wipe σ vs) H' fun σ2 H2 => wipe σ2 vs = wipe σ vs ∧ tYes σ2 H2 fun b H3 =>
        if b = true then te σ2 H3 fun y H4 => ∃ acc, H4 D = some (.lst acc) ∧ acc.length < sizeLine ∧ Nx (upd H4 D (.lst (acc ++ [y]))) else Nx H3) := by
  refine lc_it w (fun i H' => Same H1 H' ∧ H' D = some (.lst ((List.range i).map f))) ⟨same_new hD, upd_same⟩ (fun i H' _ z => hG H' z.1) ?_ fun H' z => hd H' z.1 z.2
  rintro i x H2 H3 hi ⟨s, e⟩ y
  refine hs i x H2 H3 _ hi s y (fun H4 s4 => ?_)
  refine ⟨_, s4 _ _ e, ?_, fun b o e' => ?_, ?_⟩
  · rw [List.length_map, List.length_range]
    omega
  · rw [upd_ne (ne_of_none e' hD)]
    exact s4 _ _ (s _ _ e')
  · rw [upd_same, List.range_succ, List.map_append]
    rfl
end
end GL

namespace GL
open PySem PySem.Spec PyProof.Rows L2
section
variable {J : It} {n : Nat} {G : Hp → Prop} {Y : Nat → Hp → V → Hp → Prop}
/-- lists at rs, in a list at D, all new -/
structure Objs (H0 H : Hp) (D : Addr) (rs : List Addr) (n : Nat) (o : Nat → HO) : Prop where
  top : H D = some (.lst (rs.map V.ref))
  len : rs.length = n
  row : ∀ (i : Nat) (r : Addr), rs[i]? = some r → H r = some (o i)
  nd : rs.Nodup
  out : D ∉ rs
  new : ∀ r ∈ rs, H0 r = none
theorem Objs.same {H0 H H' : Hp} {D : Addr} {rs : List Addr} {n : Nat} {o : Nat → HO} (r : Objs H0 H D rs n o) (s : Same H H') : Objs H0 H' D rs n o := ⟨s _ _ r.top, r.len, fun i a h => s _ _ (r.row i a h), r.nd, r.out, r.new⟩
/-- a comprehension of new objects -/
theorem lc_objs (w : Walk J n G Y) {g : TG} {te : TE} {vs : List Nat} {σ : L2.St} {H1 : Hp} {D : Addr} {Qd : Hp → Prop} (o : Nat → HO) (hD : H1 D = none) (hn : n ≤ sizeLine)
    (hG : ∀ H', Same H1 H' → G H')
    (hs : ∀ (i : Nat) (x : V) (H2 H3 : Hp) (N : V → Hp → Prop), i < n → Same H1 H2 → Y i H2 x H3 → (∀ H4 r, Same H2 H4 → H2 r = none → H4 r = some (o i) → N (.ref r) H4) →
      g x (wipe σ vs) H3 fun σ2 H4 => wipe σ2 vs = wipe σ vs ∧ te σ2 H4 N)
    (hd : ∀ H' rs, Same H1 H' → Objs H1 H' D rs n o → Qd H') :
    ∃ W : Nat → Nat → Hp → Prop, (∃ m, W 0 m (upd H1 D (.lst []))) ∧ ∀ i m H, W i m H →
      (J.stop i H ∧ Qd H) ∨ (J.go i H ∧ ∃ Nx : Hp → Prop, (∀ H', Nx H' → ∃ m', m' < m ∧ W (i + 1) m' H') ∧ ∀ x H', J.yld i H x H' → g x (wipe σ vs) H' fun σ2 H2 => wipe σ2 vs = wipe σ vs ∧ tYes σ2 H2 fun b H3 =>
        if b = true then te σ2 H3 fun y H4 => ∃ acc, H4 D = some (.lst acc) ∧ acc.length < sizeLine ∧ Nx (upd H4 D (.lst (acc ++ [y]))) else Nx H3) := by
  refine lc_it w (fun i H' => Same H1 H' ∧ ∃ rs, Objs H1 H' D rs i o) ⟨same_new hD, [], upd_same, rfl, fun i r h => by simp at h, List.nodup_nil, by simp, by simp⟩ (fun i H' _ z => hG H' z.1) ?_ fun H' ⟨a, rs, b⟩ => hd H' rs a b
  rintro i x H2 H3 hi ⟨s, rs, e⟩ y
  refine hs i x H2 H3 _ hi s y (fun H4 r s4 nr hr => ?_)
  have rD : D ≠ r := ne_of_none e.top nr
  have nin : r ∉ rs := fun z => by
    obtain ⟨j, hj⟩ := List.getElem?_of_mem z
    have := e.row j r hj
    rw [nr] at this
    cases this
  refine ⟨_, s4 _ _ e.top, ?_, fun b o' e' => ?_, rs ++ [r], ?_, ?_, ?_, ?_, ?_, ?_⟩
  · rw [List.length_map, e.len]
    omega
  · rw [upd_ne (ne_of_none e' hD)]
    exact s4 _ _ (s _ _ e')
  · rw [upd_same, List.map_append]
    rfl
  · rw [List.length_append, e.len]
    rfl
  · intro j a hj
    by_cases c : j < rs.length
    · rw [List.getElem?_append_left c] at hj
      have ne : a ≠ D := fun z => e.out (by rw [← z]; exact List.mem_of_getElem? hj)
      rw [upd_ne ne]
      exact s4 _ _ (e.row j a hj)
    · rw [List.getElem?_append_right (by omega)] at hj
      have j0 : j - rs.length = 0 := by
        have := (List.getElem?_eq_some_iff.mp hj).1
        simp at this
        omega
      rw [j0] at hj
      cases hj
      have ji : j = i := by
        have := e.len
        omega
      subst ji
      rw [upd_ne rD.symm]
      exact hr
  · rw [List.nodup_append]
    refine ⟨e.nd, by simp, fun a ha b hb => ?_⟩
    rw [List.mem_singleton] at hb
    subst hb
    exact fun z => nin (by rw [← z]; exact ha)
  · rw [List.mem_append, List.mem_singleton]
    rintro (z | z)
    · exact e.out z
    · exact rD z
  · intro a ha
    rcases List.mem_append.mp ha with ha | ha
    · exact e.new a ha
    · rw [List.mem_singleton] at ha
      subst ha
      exact s.free nr
theorem Objs.tab {H0 H : Hp} {D : Addr} {rs : List Addr} {n : Nat} {kss : List (List Int)} (r : Objs H0 H D rs n fun i => .lst ((kss.getD i []).map V.int)) (hn : kss.length = n) : Tab H D rs kss :=
  ⟨r.top, r.len.trans hn.symm, fun i a ks h1 h2 => by
    have := r.row i a h1
    rw [List.getD_eq_getElem?_getD, h2] at this
    exact this, r.nd⟩
end
section
variable {X : Cx}
/-- xs == [] -/
def rEqNil (K : PySem.W.Frag) : R2 := fun x y H Q => ∃ a b xs, x = .ref a ∧ y = .ref b ∧ SqL K H a xs ∧ SqL K H b [] ∧ Q (.bl xs.isEmpty) H
theorem op_eqNil (hu : X.A.units + 64 < cLine) : OpR X (compareOp .Eq) (rEqNil X.K) := by
  intro pins s σ H x y v u Q I rx ry h
  obtain ⟨a, b, xs, rfl, rfl, ha, hb, q⟩ := h
  cases rx
  cases ry
  obtain ⟨is, ra, pa, _⟩ := I.list ha
  obtain ⟨js, rb, pb, _⟩ := I.list hb
  cases rb
  cases xs with
  | nil =>
    cases ra
    exact (SeqAt.RcAt.lists (e := fun _ => true) pa.isList pb.isList rfl (by omega) (fun j h1 => absurd h1 (by simp))) _ _ _ _ ⟨.bl _, H, I, rfl, q⟩
  | cons z zs =>
    cases ra with
    | cons r1 r2 => exact (SeqAt.RcAt.lists_lengths pa.isList pb.isList (by simp) (by omega)) _ _ _ _ ⟨.bl _, H, I, rfl, q⟩
end
end GL

namespace GL
open PySem PySem.Spec PyProof.Rows L2
section
variable {P : Program} {w : World} {K : PySem.W.Frag} {mg : Str → Option Value} {base : Heap}
/-- a lot of so many people -/
structure Lot (n : Nat) (l : List Nat) : Prop where
  some : l ≠ []
  up : l.Pairwise (· < ·)
  low : ∀ p ∈ l, p < n
theorem up_len {n : Nat} : ∀ (l : List Nat) (m : Nat), l.Pairwise (· < ·) → (∀ p ∈ l, m ≤ p ∧ p < n) → l.length ≤ n - m
  | [], _, _, _ => Nat.zero_le _
  | a :: t, m, h, b => by
    obtain ⟨h1, h2⟩ := List.pairwise_cons.mp h
    have ba := b a (List.mem_cons_self ..)
    have ih := up_len t (a + 1) h2 fun p hp => ⟨h1 p hp, (b p (List.mem_cons_of_mem _ hp)).2⟩
    rw [List.length_cons]
    omega
theorem Lot.len {n : Nat} {l : List Nat} (h : Lot n l) : 1 ≤ l.length ∧ l.length ≤ n := by
  have := up_len l 0 h.up fun p hp => ⟨Nat.zero_le _, h.low p hp⟩
  have := List.length_pos_iff.mpr h.some
  omega
theorem trues_more (i : Nat) : (List.replicate (i + 1) true).map V.bl = (List.replicate i true).map V.bl ++ [V.bl true] := by
  rw [List.replicate_succ', List.map_append]
  rfl
theorem trues_all (n : Nat) : (List.replicate n true).all id = true := by
  induction n with
  | zero => rfl
  | succ n ih =>
    rw [List.replicate_succ, List.all_cons, ih]
    rfl
def spLot (K : PySem.W.Frag) : Sp := fun vs H Q _ => ∃ (n : Nat) (o : Addr) (l : List Nat), vs = [.int n, .ref o] ∧ n ≤ 100 ∧ H o = some (.lst (natV l)) ∧ Lot n l ∧ ∀ H', Same H H' → Q (.bl true) H'
def spCheckL : Sp := fun vs H Q _ => ∃ (c o : Addr) (xs : List V) (l : List Nat), vs = [.ref c, .ref o] ∧ H c = some (.lst xs) ∧ xs.length ≤ 100 ∧ H o = some (.lst (natV l)) ∧ Lot xs.length l ∧ ∀ H', Same H H' → Q .non H'
structure CoN (H0 H : Hp) (k : Int) (c : Addr) (n : Nat) : Prop where
  ex : ∃ rs kss, Tab H c rs kss ∧ kss.length = n ∧ Fine k kss ∧ c ∉ rs ∧ H0 c = none ∧ ∀ r ∈ rs, H0 r = none
theorem CoN.back {H0 H1 H : Hp} {k : Int} {c : Addr} {n : Nat} (h : CoN H1 H k c n) (f : ∀ a, H1 a = none → H0 a = none) : CoN H0 H k c n := by
  obtain ⟨rs, kss, t, l, fi, nc, n1, n2⟩ := h.ex
  exact ⟨rs, kss, t, l, fi, nc, f _ n1, fun r hr => f _ (n2 r hr)⟩
theorem nums_inj {l m : List Nat} (h : nums l = nums m) : l = m := by
  induction l generalizing m with
  | nil =>
    cases m with
    | nil => rfl
    | cons b m => cases h
  | cons a l ih =>
    cases m with
    | nil => cases h
    | cons b m =>
      obtain ⟨h1, h2⟩ := List.cons.inj h
      rw [ih h2, Int.ofNat.inj h1]
theorem nodup_le : ∀ {m l : List Nat}, m.Nodup → (∀ z ∈ m, z ∈ l) → m.length ≤ l.length
  | [], _, _, _ => Nat.zero_le _
  | a :: m, l, h, s => by
    obtain ⟨h1, h2⟩ := List.nodup_cons.mp h
    have hl := s a (List.mem_cons_self ..)
    have := nodup_le (l := l.erase a) h2 fun z hz => (List.mem_erase_of_ne fun e => h1 (by rw [← e]; exact hz)).mpr (s z (List.mem_cons_of_mem _ hz))
    rw [List.length_erase_of_mem hl] at this
    have := List.length_pos_of_mem hl
    rw [List.length_cons]
    omega
theorem nums_map (l : List Nat) : (nums l).map Int.toNat = l := by
  unfold nums
  rw [List.map_map]
  exact List.map_id'' (fun x => Int.toNat_natCast x) l
theorem nodup_up {l : List Nat} (h : l.Pairwise (· < ·)) : l.Nodup := h.imp fun x => Nat.ne_of_lt x
theorem lay_tab (kss : List (List Int)) : PyData.canLay0 (tabP kss) = true := by
  unfold tabP
  simp only [PyData.canLay0]
  exact lay_rows kss
theorem Tab.dp {K : PySem.W.Frag} {H : Hp} {c : Addr} {rs : List Addr} {kss : List (List Int)} (t : Tab H c rs kss) : Dp K H (.ref c) (tabP kss) := .lst (SqL.of t.top) (dpAll_rows t.len fun i r ks a b => SqL.of (t.row i r ks a b))
theorem nat_dp {K : PySem.W.Frag} {H : Hp} {o : Addr} {l : List Nat} (h : H o = some (.lst (natV l))) : Dp K H (.ref o) (rowP (nums l)) := dp_row (SqL.of (by rw [← natV_nums]; exact h))
theorem find_none {n : Nat} {f : Nat → Bool} (h : ∀ p, p < n → f p = false) : (List.range n).find? f = none := List.find?_eq_none.mpr fun p hp => by
  rw [h p (List.mem_range.mp hp)]
  decide
theorem find_some {n m : Nat} {f : Nat → Bool} (hm : m < n) (h : ∀ p, p < m → f p = false) (hf : f m = true) : (List.range n).find? f = some m := by
  rw [List.find?_range_eq_some]
  exact ⟨hf, List.mem_range.mpr hm, fun j hj => by rw [h j hj]; rfl⟩
theorem kit_tup {K : PySem.W.Frag} : PySem.W.kitOne K (.type "tuple") (.type "tuple") = some true := kit_ty (show kitB "tuple" "tuple" = some true by decide +kernel)
theorem choices_pairs (n : Nat) : Cmb.choices n 2 = (cplTo n n).map fun c => [c.1, c.2] := by
  rw [choices_two n n 0 (Nat.zero_add n)]
  rfl
def spCouple : Sp := fun vs H Q _ => ∃ (n : Nat) (t : Addr) (c : Nat × Nat), vs = [.int n, .ref t] ∧ H t = some (.tup (pairT c)) ∧ c.1 < c.2 ∧ c.2 < n ∧ Q (.bl true) H
def spCheckCp : Sp := fun vs H Q _ => ∃ (c t : Addr) (xs : List V) (p : Nat × Nat), vs = [.ref c, .ref t] ∧ H c = some (.lst xs) ∧ H t = some (.tup (pairT p)) ∧ p.1 < p.2 ∧ p.2 < xs.length ∧ Q .non H
def spOrderB : Sp := fun vs H Q _ => ∃ (n : Nat) (o : Addr) (os : List Nat), vs = [.int n, .ref o] ∧ n ≤ 100 ∧ H o = some (.lst (natV os)) ∧ os.Perm (List.range n) ∧ ∀ H', Same H H' → Q (.bl true) H'
theorem trues_moreB (i : Nat) : (List.replicate (i + 1) true).map V.bl = (List.replicate i true).map V.bl ++ [V.bl true] := trues_more i
def spCheckCs : Sp := fun vs H Q _ => ∃ (k : Int) (c d : Addr) (rs ps : List Addr) (kss lss : List (List Int)), vs = [.int k, .ref c, .ref d] ∧ 2 ≤ k ∧ k ≤ 9 ∧ Tab H c rs kss ∧ Tab H d ps lss ∧ Fine k kss ∧ Fine k lss ∧ 1 ≤ kss.length ∧ kss.length ≤ 40 ∧ lss.length = kss.length ∧ ∀ H', Same H H' → Q .non H'
def spAreAlike : Sp := fun vs H Q _ => ∃ (m : Addr) (ps : List Addr) (kss : List (List Int)) (a b : Nat), vs = [.ref m, .int a, .int b] ∧ Mat H m ps kss.length (tieV kss) ∧ kss.length ≤ 100 ∧ a < kss.length ∧ b < kss.length ∧ a ≠ b ∧ ∀ H', Same H H' → Q (.bl (alikeB kss a b)) H'
theorem tyV_ne {kss : List (List Int)} {i a b : Nat} (ha : i ≠ a) (hb : i ≠ b) : decide (tieV kss i a = tieV kss i b) = decide (tieN kss i a = tieN kss i b) := by
  unfold tieV
  rw [if_neg ha, if_neg hb]
  by_cases c : tieN kss i a = tieN kss i b
  · simp [c]
  · simp [c]
theorem ty_scal (kss : List (List Int)) (i a b : Nat) : scal (tieV kss i a) (tieV kss i b) = true := by
  unfold tieV
  by_cases h1 : i = a
  · by_cases h2 : i = b
    · rw [if_pos h1, if_pos h2]; rfl
    · rw [if_pos h1, if_neg h2]; rfl
  · by_cases h2 : i = b
    · rw [if_neg h1, if_pos h2]; rfl
    · rw [if_neg h1, if_neg h2]; rfl
/-- the company of the people at os -/
def rowN (kss : List (List Int)) (os : List Nat) (i : Nat) : List Int := (List.range i).map fun j => tieN kss (os.getD i 0) (os.getD j 0)
def namedK (kss : List (List Int)) (os : List Nat) : List (List Int) := (List.range os.length).map (rowN kss os)
theorem named_len (kss : List (List Int)) (os : List Nat) : (namedK kss os).length = os.length := by
  unfold namedK
  rw [List.length_map, List.length_range]
theorem named_fine {k : Int} {kss : List (List Int)} {os : List Nat} (f : Fine k kss) (nd : os.Nodup) (bd : ∀ j ∈ os, j < kss.length) : Fine k (namedK kss os) := fun i ks e => by
  unfold namedK at e
  rw [List.getElem?_map] at e
  cases h : (List.range os.length)[i]? with
  | none =>
    rw [h] at e
    cases e
  | some x =>
    obtain ⟨hi, hx⟩ := List.getElem?_eq_some_iff.mp h
    rw [List.getElem_range] at hx
    subst hx
    rw [List.length_range] at hi
    rw [h] at e
    cases e
    unfold rowN
    refine ⟨by rw [List.length_map, List.length_range], fun z hz => ?_⟩
    obtain ⟨j, hj, rfl⟩ := List.mem_map.mp hz
    have hji := List.mem_range.mp hj
    have hjl : j < os.length := by omega
    have gi : os.getD i 0 = os[i] := by rw [List.getD_eq_getElem?_getD, List.getElem?_eq_getElem hi]; rfl
    have gj : os.getD j 0 = os[j] := by rw [List.getD_eq_getElem?_getD, List.getElem?_eq_getElem hjl]; rfl
    rw [gi, gj]
    refine tieN_in f (bd _ (List.getElem_mem _)) (bd _ (List.getElem_mem _)) fun z => ?_
    have := (List.getElem_inj nd).mp z
    omega
theorem tie_named {kss : List (List Int)} {os : List Nat} {i j : Nat} (hi : i < os.length) (hj : j < os.length) (ne : i ≠ j) : tieN (namedK kss os) i j = tieN kss (os.getD i 0) (os.getD j 0) := by
  have base : ∀ {a b : Nat}, a < os.length → b < a → tieN (namedK kss os) a b = tieN kss (os.getD a 0) (os.getD b 0) := fun {a b} ha hb => by
    have e1 : (namedK kss os).getD (max a b) [] = rowN kss os a := by
      unfold namedK
      rw [Nat.max_eq_left (by omega), List.getD_eq_getElem?_getD, List.getElem?_map, List.getElem?_range ha]
      rfl
    conv => lhs; unfold tieN
    rw [e1, Nat.min_eq_right (by omega)]
    unfold rowN
    rw [List.getD_eq_getElem?_getD, List.getElem?_map, List.getElem?_range hb]
    rfl
  rcases Nat.lt_or_ge j i with h | h
  · exact base hi h
  · rw [tieN_comm, base hj (by omega), tieN_comm]
def spCplAlike : Sp := fun vs H Q _ => ∃ (m : Addr) (ps : List Addr) (kss : List (List Int)), vs = [.ref m] ∧ Mat H m ps kss.length (tieV kss) ∧ kss.length ≤ 100 ∧
  ∀ (p : Addr) (ts : List (Addr × Nat × Nat)) (H' : Hp), Same H H' → H p = none → Cpls H H' p ts → ts.map (·.2) = (cplTo kss.length kss.length).filter (fun c => alikeB kss c.1 c.2) → Q (.ref p) H'
def spUnlikeC : Sp := fun vs H Q _ => ∃ (c d : Addr) (rs ps : List Addr) (kss lss : List (List Int)) (k : Int), vs = [.ref c, .ref d] ∧ Tab H c rs kss ∧ Tab H d ps lss ∧ Fine k kss ∧ Fine k lss ∧ kss.length ≤ 100 ∧ lss.length = kss.length ∧
  ∀ (p : Addr) (ts : List (Addr × Nat × Nat)) (H' : Hp), Same H H' → H p = none → Cpls H H' p ts → ts.map (·.2) = (cplTo kss.length kss.length).filter (fun c => !decide (tieN kss c.2 c.1 = tieN lss c.2 c.1)) → Q (.ref p) H'
def spAmongC : Sp := fun vs H Q _ => ∃ (c o : Addr) (rs : List Addr) (kss : List (List Int)) (k : Int) (l : List Nat), vs = [.ref c, .ref o] ∧ Tab H c rs kss ∧ Fine k kss ∧ kss.length ≤ 100 ∧ H o = some (.lst (natV l)) ∧ Lot kss.length l ∧
  ∀ (p : Addr) (ps : List Addr) (H' : Hp), Same H H' → Tab H' p ps (namedK kss l) → p ∉ ps → H p = none → (∀ r ∈ ps, H r = none) → Q (.ref p) H'
/-- what a function of a company and a couple is handed -/
structure AskC (H : Hp) (vs : List V) (kss : List (List Int)) (p : Nat × Nat) : Prop where
  ex : ∃ (k : Int) (c t : Addr) (rs : List Addr), vs = [.int k, .ref c, .ref t] ∧ 2 ≤ k ∧ k ≤ 9 ∧ Tab H c rs kss ∧ Fine k kss ∧ H t = some (.tup (pairT p))
  one : 1 ≤ kss.length
  most : kss.length ≤ 40
  lt : p.1 < p.2
  low : p.2 < kss.length
def spTieP : Sp := fun vs H Q _ => ∃ (kss : List (List Int)) (p : Nat × Nat), AskC H vs kss p ∧ ∀ H', Same H H' → Q (.int (tieN kss p.2 p.1)) H'
def spStand : Sp := fun vs H Q _ => ∃ (kss : List (List Int)) (p : Nat × Nat), AskC H vs kss p ∧ ∀ H', Same H H' → Q (.bl (alikeB kss p.1 p.2)) H'
def spAlikes : Sp := fun vs H Q _ => ∃ (k : Int) (c : Addr) (rs : List Addr) (kss : List (List Int)), vs = [.int k, .ref c] ∧ 2 ≤ k ∧ k ≤ 9 ∧ Tab H c rs kss ∧ Fine k kss ∧ 1 ≤ kss.length ∧ kss.length ≤ 40 ∧
  ∀ (p : Addr) (ts : List (Addr × Nat × Nat)) (H' : Hp), Same H H' → H p = none → Cpls H H' p ts → ts.map (·.2) = (cplTo kss.length kss.length).filter (fun c => alikeB kss c.1 c.2) → Q (.ref p) H'
def spAmong : Sp := fun vs H Q _ => ∃ (k : Int) (c o : Addr) (rs : List Addr) (kss : List (List Int)) (l : List Nat), vs = [.int k, .ref c, .ref o] ∧ 2 ≤ k ∧ k ≤ 9 ∧ Tab H c rs kss ∧ Fine k kss ∧ 1 ≤ kss.length ∧ kss.length ≤ 40 ∧ H o = some (.lst (natV l)) ∧ Lot kss.length l ∧
  ∀ (p : Addr) (ps : List Addr) (H' : Hp), Same H H' → Tab H' p ps (namedK kss l) → p ∉ ps → H p = none → (∀ r ∈ ps, H r = none) → Q (.ref p) H'
def spDiffer : Sp := fun vs H Q _ => ∃ (k : Int) (c d : Addr) (rs ps : List Addr) (kss lss : List (List Int)), vs = [.int k, .ref c, .ref d] ∧ 2 ≤ k ∧ k ≤ 9 ∧ Tab H c rs kss ∧ Tab H d ps lss ∧ Fine k kss ∧ Fine k lss ∧ 1 ≤ kss.length ∧ kss.length ≤ 40 ∧ lss.length = kss.length ∧
  ∀ (p : Addr) (ts : List (Addr × Nat × Nat)) (H' : Hp), Same H H' → H p = none → Cpls H H' p ts → ts.map (·.2) = (cplTo kss.length kss.length).filter (fun c => !decide (tieN kss c.2 c.1 = tieN lss c.2 c.1)) → Q (.ref p) H'
def spRenamed : Sp := fun vs H Q _ => ∃ (k : Int) (c o : Addr) (rs : List Addr) (kss : List (List Int)) (os : List Nat), vs = [.int k, .ref c, .ref o] ∧ 2 ≤ k ∧ k ≤ 9 ∧ Tab H c rs kss ∧ Fine k kss ∧ 1 ≤ kss.length ∧ kss.length ≤ 40 ∧ H o = some (.lst (natV os)) ∧ os.Perm (List.range kss.length) ∧
  ∀ (p : Addr) (ps : List Addr) (H' : Hp), Same H H' → Tab H' p ps (namedK kss os) → p ∉ ps → H p = none → (∀ r ∈ ps, H r = none) → Q (.ref p) H'
def CI (H : Hp) (g f : Addr) (k : Int) (m n i : Nat) (σ : L2.St) (H' : Hp) : Prop := ∃ (pv wv ov kv rv : Option V), σ = [some (.ref g), some (.int k), some (.int m), pv, some (.ref f), wv, ov, kv, rv, none] ∧ But g H H' ∧ Gen H' g (n + 19000 - 15 * i) ∧
  ∃ rs kss, Tab H' f rs kss ∧ kss.length = i + 1 ∧ Fine k kss ∧ f ∉ rs ∧ H f = none ∧ ∀ r ∈ rs, H r = none
theorem CI.next {H H' H3 : Hp} {g f p : Addr} {k : Int} {m n i nn n' : Nat} {rs : List Addr} {kss : List (List Int)} {ks : List Int} {pv wv ov kv rv : Option V} (G0 : Gen H g nn) (bt : But g H H') (G' : Gen H' g n') (t : Tab H' f rs kss) (lk : kss.length = i + 1) (fine : Fine k kss) (nf : f ∉ rs)
    (hf : H f = none) (nR : ∀ r ∈ rs, H r = none) (b3 : But g H' H3) (G3 : Gen H3 g (n + 19000 - 15 * (i + 1))) (hp : H' p = none) (h3 : H3 p = some (.lst (ks.map V.int))) (lks : ks.length = i + 1) (bk : ∀ z ∈ ks, 0 ≤ z ∧ z < k) :
    H3 f = some (.lst (rs.map V.ref)) ∧ CI H g f k m n (i + 1) [some (.ref g), some (.int k), some (.int m), pv, some (.ref f), wv, ov, kv, rv, none] (upd H3 f (.lst (rs.map V.ref ++ [V.ref p]))) := by
  have gf : g ≠ f := G0.ne hf
  have gr : g ∉ rs := notin_new G0 nR
  obtain ⟨t2, n2⟩ := t.push nf (H4 := H3) (fun r hr o e => b3 r o e (fun z => gr (by rw [← z]; exact hr))) hp h3
  refine ⟨b3 _ _ t.top gf.symm, pv, wv, ov, kv, rv, rfl, ?_, G3.other gf.symm, _, _, t2, by rw [List.length_append, lk]; rfl, fine.push (by omega) bk, n2, hf, ?_⟩
  · intro b o e nb
    rw [upd_ne (ne_of_none e hf)]
    exact b3 b o (bt b o e nb) nb
  · intro r hr
    rcases List.mem_append.mp hr with hr | hr
    · exact nR r hr
    · rw [List.mem_singleton] at hr
      subst hr
      exact but_free bt G' hp
def spYes : Sp := fun vs H Q _ => ∃ b : Bool, vs = [.bl b, .bl b] ∧ Q (.bl true) H
def spAlike2 : Sp := fun vs H Q _ => ∃ (c : Addr) (rs : List Addr) (kss : List (List Int)) (k : Int) (a b : Nat), vs = [.ref c, .int a, .int b] ∧ Tab H c rs kss ∧ Fine k kss ∧ kss.length ≤ 100 ∧ a < kss.length ∧ b < kss.length ∧ Q (.bl (alikeB kss a b)) H
def spCouples : Sp := fun vs H Q _ => ∃ n : Nat, vs = [.int n] ∧ n ≤ 100 ∧ ∀ (p : Addr) (ts : List (Addr × Nat × Nat)) (H' : Hp), Same H H' → H p = none → Cpls H H' p ts → ts.map (·.2) = cplTo n n → Q (.ref p) H'
def spNamed : Sp := fun vs H Q _ => ∃ (c o : Addr) (rs : List Addr) (kss : List (List Int)) (k : Int) (os : List Nat), vs = [.ref c, .ref o] ∧ Tab H c rs kss ∧ Fine k kss ∧ H o = some (.lst (natV os)) ∧ os.Nodup ∧ (∀ j ∈ os, j < kss.length) ∧ os.length ≤ 100 ∧
  ∀ (p : Addr) (ps : List Addr) (H' : Hp), Same H H' → Tab H' p ps (namedK kss os) → p ∉ ps → H p = none → (∀ r ∈ ps, H r = none) → Q (.ref p) H'
def spOrder : Sp := fun vs H Q _ => ∃ (g : Addr) (m n : Nat), vs = [.ref g, .int m] ∧ m ≤ 60 ∧ Gen H g (n + 5 * m) ∧
  ∀ (o : Addr) (H' : Hp) (os : List Nat), But g H H' → H o = none → Gen H' g n → H' o = some (.lst (natV os)) → os.Perm (List.range m) → Q (.ref o) H'
def spCompany : Sp := fun vs H Q _ => ∃ (g : Addr) (k : Int) (m n : Nat), vs = [.ref g, .int k, .int m] ∧ 2 ≤ k ∧ k ≤ 9 ∧ 1 ≤ m ∧ m ≤ 50 ∧ Gen H g (n + 20000) ∧ ∀ (p : Addr) (H' : Hp), But g H H' → Gen H' g n → CoN H H' k p m → Q (.ref p) H'
def cT (c : Nat × Nat) : PyData := .tuple [.int (c.1 : Nat), .int (c.2 : Nat)]
def cplP (cs : List (Nat × Nat)) : PyData := .list (cs.map cT)
theorem eqv_cT (c d : Nat × Nat) : PyData.eqv (cT c) (cT d) = decide (c = d) := by
  obtain ⟨a, b⟩ := c
  obtain ⟨x, y⟩ := d
  unfold cT
  simp only [PyData.eqv, PyData.eqvAll]
  by_cases h1 : a = x
  · subst h1
    by_cases h2 : b = y
    · subst h2
      simp
    · simp [h2]
      omega
  · simp [h1]
    omega
theorem eqv_cs : ∀ xs ys : List (Nat × Nat), PyData.eqvAll (xs.map cT) (ys.map cT) = decide (xs = ys)
  | [], [] => by simp [PyData.eqvAll]
  | [], y :: ys => by simp [PyData.eqvAll]
  | x :: xs, [] => by simp [PyData.eqvAll]
  | x :: xs, y :: ys => by
    simp only [List.map_cons, PyData.eqvAll]
    rw [eqv_cs xs ys, eqv_cT]
    by_cases h1 : x = y
    · subst h1
      simp
    · simp [h1]
theorem eqv_cpl (xs ys : List (Nat × Nat)) : PyData.eqv (cplP xs) (cplP ys) = decide (xs = ys) := by
  unfold cplP
  simp only [PyData.eqv]
  exact eqv_cs xs ys
theorem lay_cT (c : Nat × Nat) : PyData.canLay0 (cT c) = true := by
  unfold cT
  simp only [PyData.canLay0, PyData.canLayAll0]
  rfl
theorem lay_cs : ∀ xs : List (Nat × Nat), PyData.canLayAll0 (xs.map cT) = true
  | [] => by simp [PyData.canLayAll0]
  | x :: xs => by
    simp only [List.map_cons, PyData.canLayAll0]
    rw [lay_cs xs, lay_cT]
    rfl
theorem depth_cT (c : Nat × Nat) : (cT c).depth ≤ 1 := by
  unfold cT
  simp only [PyData.depth, PyData.depthAll]
  omega
theorem shaped_cT (c : Nat × Nat) : SeqAt.shaped (cT c) = true := by
  unfold SeqAt.shaped
  rw [lay_cT, decide_eq_true (Nat.le_trans (depth_cT c) (by decide))]
  rfl
theorem shaped_cpl (xs : List (Nat × Nat)) : SeqAt.shaped (cplP xs) = true := by
  have d : (cplP xs).depth ≤ 2 := by
    unfold cplP
    simp only [PyData.depth]
    have := depthAll_of (n := 1) (ds := xs.map cT) fun e he => by
      obtain ⟨x, _, rfl⟩ := List.mem_map.mp he
      exact depth_cT x
    omega
  unfold SeqAt.shaped
  rw [decide_eq_true (Nat.le_trans d (by decide))]
  unfold cplP
  simp only [PyData.canLay0]
  rw [lay_cs]
  rfl
theorem any_cpl (xs : List (Nat × Nat)) (y : Nat × Nat) : ((xs.map cT).any fun z => PyData.eqv z (cT y)) = decide (y ∈ xs) := by
  induction xs with
  | nil => simp
  | cons x xs ih =>
    rw [List.map_cons, List.any_cons, ih, eqv_cT]
    by_cases h : x = y
    · subst h
      simp
    · have h' : y ≠ x := fun z => h z.symm
      simp [h, h']
theorem dp_pair {K : PySem.W.Frag} {H : Hp} {t : Addr} {c : Nat × Nat} (h : H t = some (.tup (pairT c))) : Dp K H (.ref t) (cT c) := .tup (SqT.of h) (.cons (.int _) (.cons (.int _) .nil))
theorem dp_cpl {K : PySem.W.Frag} {H : Hp} {a : Addr} {ts : List (Addr × Nat × Nat)} (h : H a = some (.lst (ts.map fun t => V.ref t.1))) (r : ∀ t ∈ ts, H t.1 = some (.tup (pairT t.2))) : Dp K H (.ref a) (cplP (ts.map (·.2))) := by
  have : cplP (ts.map (·.2)) = .list ((ts.map (·.2)).map cT) := rfl
  rw [this]
  refine .lst (SqL.of h) ?_
  have g : ∀ us : List (Addr × Nat × Nat), (∀ t ∈ us, H t.1 = some (.tup (pairT t.2))) → DpAll K H (us.map fun t => V.ref t.1) ((us.map (·.2)).map cT) := fun us => by
    induction us with
    | nil => exact fun _ => .nil
    | cons u us ih => exact fun h => .cons (dp_pair (h u (List.mem_cons_self ..))) (ih fun t ht => h t (List.mem_cons_of_mem _ ht))
  exact g ts r
theorem Cpls.dp {K : PySem.W.Frag} {H0 H : Hp} {a : Addr} {ts : List (Addr × Nat × Nat)} (R : Cpls H0 H a ts) : Dp K H (.ref a) (cplP (ts.map (·.2))) := dp_cpl R.top R.row
theorem alike_named {kss : List (List Int)} {os : List Nat} (nd : os.Nodup) (bd : ∀ j ∈ os, j < kss.length) {i j : Nat} (hi : i < os.length) (hj : j < os.length) (ne : i ≠ j) (h : alikeB kss os[i] os[j] = true) : alikeB (namedK kss os) i j = true := by
  unfold alikeB
  refine List.all_eq_true.mpr fun m hm => ?_
  have ml : m < os.length := by
    have := List.mem_range.mp hm
    rw [named_len] at this
    exact this
  have gd : ∀ {x : Nat} (hx : x < os.length), os.getD x 0 = os[x] := fun {x} hx => by rw [List.getD_eq_getElem?_getD, List.getElem?_eq_getElem hx]; rfl
  by_cases c1 : m = i
  · subst c1
    simp
  · by_cases c2 : m = j
    · subst c2
      simp
    · rw [tie_named ml hi c1, tie_named ml hj c2, gd ml, gd hi, gd hj]
      have := List.all_eq_true.mp h os[m] (List.mem_range.mpr (bd _ (List.getElem_mem _)))
      have n1 : ¬ os[m] = os[i] := fun z => c1 ((List.getElem_inj nd).mp z)
      have n2 : ¬ os[m] = os[j] := fun z => c2 ((List.getElem_inj nd).mp z)
      have e1 : (os[m] == os[i]) = false := by simpa using n1
      have e2 : (os[m] == os[j]) = false := by simpa using n2
      rw [e1, e2] at this
      have t3 : tieN kss os[m] os[i] = tieN kss os[m] os[j] := by simpa using this
      rw [t3]
      simp
/-- the place of one in a list without repeats -/
theorem place_of {os : List Nat} {a : Nat} (h : a ∈ os) : ∃ i, ∃ hi : i < os.length, os[i] = a := by
  obtain ⟨i, hi, e⟩ := List.getElem_of_mem h
  exact ⟨i, hi, e⟩
theorem first_place {os : List Nat} (nd : os.Nodup) {i : Nat} (hi : i < os.length) : ∃ z, ((nums os).map PyData.int)[i]? = some z ∧ PyData.eqv z (.int (os[i] : Nat)) = true ∧ ∀ (m : Nat) (z' : PyData), m < i → ((nums os).map PyData.int)[m]? = some z' → PyData.eqv z' (.int (os[i] : Nat)) = false := by
  refine ⟨.int (os[i] : Nat), ?_, by simp [PyData.eqv], fun m z' hm e => ?_⟩
  · unfold nums
    rw [List.getElem?_map, List.getElem?_map, List.getElem?_eq_getElem hi]
    rfl
  · have ml : m < os.length := by omega
    unfold nums at e
    rw [List.getElem?_map, List.getElem?_map, List.getElem?_eq_getElem ml] at e
    cases e
    have : ¬ os[m] = os[i] := fun z => by
      have := (List.getElem_inj nd).mp z
      omega
    have t : ¬ ((os[m] : Nat) : Int) = (os[i] : Nat) := by omega
    simp [PyData.eqv, t]
def gK : List Value → List Value → List Value
  | [], [l, c, k] => [k, c, l]
  | _, _ => []
def gKV : List V → List V → List V
  | [], [l, c, k] => [k, c, l]
  | _, _ => []
theorem gK_rel {vs : List V} {us : List Value} {zs : List V} {ws : List Value} (a : Vals vs us) (b : Vals zs ws) : Vals (gKV vs zs) (gK us ws) := by
  cases a with
  | cons _ _ => exact .nil
  | nil =>
    cases b with
    | nil => exact .nil
    | cons r1 b =>
      cases b with
      | nil => exact .nil
      | cons r2 b =>
        cases b with
        | nil => exact .nil
        | cons r3 b =>
          cases b with
          | nil => exact .cons r3 (.cons r2 (.cons r1 .nil))
          | cons _ _ => exact .nil
def gK2 : List Value → List Value → List Value
  | [], [c, k] => [k, c]
  | _, _ => []
def gKV2 : List V → List V → List V
  | [], [c, k] => [k, c]
  | _, _ => []
theorem gK2_rel {vs : List V} {us : List Value} {zs : List V} {ws : List Value} (a : Vals vs us) (b : Vals zs ws) : Vals (gKV2 vs zs) (gK2 us ws) := by
  cases a with
  | cons _ _ => exact .nil
  | nil =>
    cases b with
    | nil => exact .nil
    | cons r1 b =>
      cases b with
      | nil => exact .nil
      | cons r2 b =>
        cases b with
        | nil => exact .cons r2 (.cons r1 .nil)
        | cons _ _ => exact .nil
/-- a def of the program, called by the names of its arguments -/
def UseK (P : Program) (w : World) (K : PySem.W.Frag) (mg : Str → Option Value) (base : Heap) (x : Str) (ps ks : List Str) (g : List Value → List Value → List Value) (gV : List V → List V → List V) (sp : Sp) (k : Nat) : Prop := ∃ f fd, FnOk P w K mg base CX0 k f fd ps sp ∧ mg x = some (.ref f) ∧ PySem.W.keepIn K (.ref f) = true ∧ KBinds K fd ps ks g gV
/-- two tables, as data -/
def twoP (kss lss : List (List Int)) : PyData := .list [tabP kss, tabP lss]
theorem lay_two (kss lss : List (List Int)) : PyData.canLay0 (twoP kss lss) = true := by
  unfold twoP
  simp only [PyData.canLay0, PyData.canLayAll0]
  rw [lay_tab, lay_tab]
  rfl
theorem shaped_two (kss lss : List (List Int)) : SeqAt.shaped (twoP kss lss) = true := by
  have d : (twoP kss lss).depth ≤ 3 := by
    unfold twoP
    simp only [PyData.depth, PyData.depthAll]
    have := depth_rows kss
    have := depth_rows lss
    omega
  unfold SeqAt.shaped
  rw [lay_two, decide_eq_true (Nat.le_trans d (by decide))]
  rfl
theorem eqv_two (kss lss : List (List Int)) : PyData.eqv (twoP kss lss) (twoP kss lss) = true := SeqAt.eqv_refl _ (lay_two kss lss)
/-- two rows, as data -/
def rows2 (l m : List Nat) : PyData := .list [rowP (nums l), rowP (nums m)]
theorem nice_row {l : List Nat} (h : l.length ≤ 50) (b : ∀ j ∈ l, j < 100) : Nice 1 (rowP (nums l)) := Nice.list (by unfold nums; rw [List.length_map, List.length_map]; exact h) fun e he => by
  unfold nums at he
  rw [List.map_map] at he
  obtain ⟨j, hj, rfl⟩ := List.mem_map.mp he
  have := b j hj
  exact Nice.leaf (by show ((j : Nat) : Int).natAbs < 2 ^ 100; omega)
theorem pair_sorted {i j : Nat} {ns : List Int} (ne : i ≠ j) (pm : ns.Perm (nums [i, j])) (so : ns.Pairwise (· ≤ ·)) : ∃ x y : Nat, ns = nums [x, y] ∧ x < y ∧ ((x = i ∧ y = j) ∨ (x = j ∧ y = i)) := by
  by_cases h : i < j
  · refine ⟨i, j, ?_, h, .inl ⟨rfl, rfl⟩⟩
    refine PySem.W.os_sorted_one pm so ?_
    unfold nums
    exact List.pairwise_cons.mpr ⟨fun z hz => by rw [List.mem_map] at hz; obtain ⟨w, hw, rfl⟩ := hz; rw [List.mem_singleton] at hw; show ((_ : Nat) : Int) ≤ ((w : Nat) : Int); omega, List.pairwise_singleton ..⟩
  · refine ⟨j, i, ?_, by omega, .inr ⟨rfl, rfl⟩⟩
    refine PySem.W.os_sorted_one (pm.trans (List.Perm.swap ..)) so ?_
    unfold nums
    exact List.pairwise_cons.mpr ⟨fun z hz => by rw [List.mem_map] at hz; obtain ⟨w, hw, rfl⟩ := hz; rw [List.mem_singleton] at hw; show ((_ : Nat) : Int) ≤ ((w : Nat) : Int); omega, List.pairwise_singleton ..⟩
def spLists : Sp := fun vs H Q _ => ∃ (g c : Addr) (k : Int) (rs : List Addr) (kss : List (List Int)) (n : Nat), vs = [.ref g, .int k, .ref c] ∧ 2 ≤ k ∧ k ≤ 9 ∧ Gen H g (n + 1000) ∧ Tab H c rs kss ∧ Fine k kss ∧ 1 ≤ kss.length ∧ kss.length ≤ 40 ∧ c ≠ g ∧ g ∉ rs ∧ ∀ H', But g H H' → Q (.bl true) H'
abbrev KCO : List Str := ["kinds", "company", "order"]
abbrev KCL : List Str := ["kinds", "company", "lot"]
abbrev KCC : List Str := ["kinds", "company", "couple"]
theorem neNil_of {cs : List (Nat × Nat)} {f : Nat × Nat → Bool} (h : ∀ c ∈ cs, f c = false) : cs.filter f = [] := List.filter_eq_nil_iff.mpr fun c hc => by rw [h c hc]; decide
def spRight : Sp := fun vs H Q _ => ∃ (g : Addr) (n : Nat), vs = [.ref g] ∧ Gen H g (n + 60000) ∧ ∀ H', But g H H' → Q (.bl true) H'
abbrev KOO : List Str := ["kinds", "one", "other"]
end
end GL

/-! Deeds on companies of numbers. -/
namespace GL
open PySem PySem.Spec PyProof.Rows L2
/-- the tie of a and b (a below b) put to v -/
def setT (kss : List (List Int)) (b a : Nat) (v : Int) : List (List Int) := kss.set b ((kss.getD b []).set a v)
theorem setT_len (kss : List (List Int)) (b a : Nat) (v : Int) : (setT kss b a v).length = kss.length := List.length_set ..
theorem getD_set {α : Type} (l : List α) (i j : Nat) (x d : α) : (l.set i x).getD j d = if i = j ∧ j < l.length then x else l.getD j d := by
  rw [List.getD_eq_getElem?_getD, List.getElem?_set]
  by_cases h : i = j
  · subst h
    by_cases hl : i < l.length
    · rw [if_pos rfl, if_pos hl, if_pos ⟨rfl, hl⟩]
      rfl
    · rw [if_pos rfl, if_neg hl, if_neg (fun z => hl z.2), List.getD_eq_getElem?_getD, List.getElem?_eq_none (by omega)]
  · rw [if_neg h, if_neg (fun z => h z.1), List.getD_eq_getElem?_getD]
theorem Fine.row_len {k : Int} {kss : List (List Int)} (f : Fine k kss) {i : Nat} (hi : i < kss.length) : (kss.getD i []).length = i := by
  have := (f i _ (List.getElem?_eq_getElem hi)).1
  rw [List.getD_eq_getElem?_getD, List.getElem?_eq_getElem hi]
  exact this
theorem tie_setT {k : Int} {kss : List (List Int)} (f : Fine k kss) {a b : Nat} (ab : a < b) (hb : b < kss.length) (v : Int) (i j : Nat) : tieN (setT kss b a v) i j = if max i j = b ∧ min i j = a then v else tieN kss i j := by
  unfold tieN setT
  rw [getD_set]
  by_cases h : b = max i j ∧ max i j < kss.length
  · rw [if_pos h, getD_set, f.row_len hb]
    by_cases h2 : a = min i j ∧ min i j < b
    · rw [if_pos h2, if_pos ⟨h.1.symm, h2.1.symm⟩]
    · rw [if_neg h2, h.1, if_neg (by omega)]
  · rw [if_neg h, if_neg (by omega)]
theorem setT_fine {k : Int} {kss : List (List Int)} (f : Fine k kss) {a b : Nat} (hb : b < kss.length) {v : Int} (v0 : 0 ≤ v) (vk : v < k) : Fine k (setT kss b a v) := by
  intro i ks e
  unfold setT at e
  rw [List.getElem?_set] at e
  by_cases h : b = i
  · subst h
    rw [if_pos rfl, if_pos hb] at e
    cases e
    rw [List.length_set]
    refine ⟨f.row_len hb, fun z hz => ?_⟩
    rcases List.mem_or_eq_of_mem_set hz with h | h
    · refine (f b _ (List.getElem?_eq_getElem hb)).2 z ?_
      rw [List.getD_eq_getElem?_getD, List.getElem?_eq_getElem hb] at h
      exact h
    · subst h
      exact ⟨v0, vk⟩
  · rw [if_neg h] at e
    exact f i ks e
/-- one deed -/
def Step (k : Int) (kss kss' : List (List Int)) : Prop := ∃ (a b : Nat) (v : Int), a < b ∧ b < kss.length ∧ alikeB kss a b = true ∧ 0 ≤ v ∧ v < k ∧ kss' = setT kss b a v
theorem Step.fine {k : Int} {kss kss' : List (List Int)} (s : Step k kss kss') (f : Fine k kss) : Fine k kss' := by
  obtain ⟨a, b, v, ab, hb, _, v0, vk, rfl⟩ := s
  exact setT_fine f hb v0 vk
theorem Step.len {k : Int} {kss kss' : List (List Int)} (s : Step k kss kss') : kss'.length = kss.length := by
  obtain ⟨a, b, v, ab, hb, _, v0, vk, rfl⟩ := s
  exact setT_len ..
/-- a row of deeds -/
inductive Led (k : Int) (kss : List (List Int)) : List (List Int) → Prop
  | refl : Led k kss kss
  | step {ls ms : List (List Int)} : Led k kss ls → Step k ls ms → Led k kss ms
theorem Led.fine {k : Int} {kss ls : List (List Int)} (l : Led k kss ls) (f : Fine k kss) : Fine k ls := by
  induction l with
  | refl => exact f
  | step _ s ih => exact s.fine ih
theorem Led.len {k : Int} {kss ls : List (List Int)} (l : Led k kss ls) : ls.length = kss.length := by
  induction l with
  | refl => rfl
  | step _ s ih => exact s.len.trans ih
theorem Led.trans {k : Int} {kss ls ms : List (List Int)} (l : Led k kss ls) (m : Led k ls ms) : Led k kss ms := by
  induction m with
  | refl => exact l
  | step _ s ih => exact ih.step s
theorem alike_at {kss : List (List Int)} {a b m : Nat} (h : alikeB kss a b = true) (hm : m < kss.length) (ma : m ≠ a) (mb : m ≠ b) : tieN kss m a = tieN kss m b := by
  have := List.all_eq_true.mp h m (List.mem_range.mpr hm)
  have e1 : (m == a) = false := by simpa using ma
  have e2 : (m == b) = false := by simpa using mb
  rw [e1, e2] at this
  simpa using this
theorem alike_of {kss : List (List Int)} {a b : Nat} (h : ∀ m, m < kss.length → m ≠ a → m ≠ b → tieN kss m a = tieN kss m b) : alikeB kss a b = true := by
  unfold alikeB
  refine List.all_eq_true.mpr fun m hm => ?_
  by_cases ma : m = a
  · subst ma
    simp
  · by_cases mb : m = b
    · subst mb
      simp
    · rw [h m (List.mem_range.mp hm) ma mb]
      simp
theorem alike_setT {k : Int} {kss : List (List Int)} (f : Fine k kss) {a b : Nat} (ab : a < b) (hb : b < kss.length) (v : Int) (h : alikeB kss a b = true) : alikeB (setT kss b a v) a b = true := by
  refine alike_of fun m hm ma mb => ?_
  rw [setT_len] at hm
  rw [tie_setT f ab hb, tie_setT f ab hb, if_neg (by omega), if_neg (by omega)]
  exact alike_at h hm ma mb
/-! ### fours -/
theorem firm_false {kss : List (List Int)} {a b p q r s : Nat} (h : alikeB kss a b = true) (hs : s < kss.length) (pq : p < q) (qr : q < r) (rs : r < s) (ma : a ∈ [p, q, r, s]) (mb : b ∈ [p, q, r, s]) (ab : a < b) : firmL (sixL kss [p, q, r, s]) = false := by
  have at' : ∀ m, m < kss.length → m ≠ a → m ≠ b → tieN kss a m = tieN kss b m := fun m h1 h2 h3 => by
    rw [tieN_comm kss a m, tieN_comm kss b m]
    exact alike_at h h1 h2 h3
  have at2 : ∀ m, m < kss.length → m ≠ a → m ≠ b → tieN kss m a = tieN kss m b := fun m h1 h2 h3 => alike_at h h1 h2 h3
  have at3 : ∀ m, m < kss.length → m ≠ a → m ≠ b → tieN kss a m = tieN kss m b := fun m h1 h2 h3 => by rw [tieN_comm kss a m]; exact at2 m h1 h2 h3
  show firmB (tieN kss p q) (tieN kss p r) (tieN kss p s) (tieN kss q r) (tieN kss q s) (tieN kss r s) = false
  unfold firmB
  have ca : a = p ∨ a = q ∨ a = r ∨ a = s := by simpa using ma
  have cb : b = p ∨ b = q ∨ b = r ∨ b = s := by simpa using mb
  rcases ca with rfl | rfl | rfl | rfl <;> rcases cb with rfl | rfl | rfl | rfl <;> first
    | omega
    | (rw [at' _ (by omega : r < kss.length) (by omega) (by omega), at' _ (by omega : s < kss.length) (by omega) (by omega)]; simp; done)
    | (rw [at3 _ (by omega : q < kss.length) (by omega) (by omega), at' _ (by omega : s < kss.length) (by omega) (by omega)]; simp; done)
    | (rw [at3 _ (by omega : q < kss.length) (by omega) (by omega), at3 _ (by omega : r < kss.length) (by omega) (by omega)]; simp; done)
    | (rw [at2 _ (by omega : p < kss.length) (by omega) (by omega), at' _ (by omega : s < kss.length) (by omega) (by omega)]; simp; done)
    | (rw [at2 _ (by omega : p < kss.length) (by omega) (by omega), at3 _ (by omega : r < kss.length) (by omega) (by omega)]; simp; done)
    | (rw [at2 _ (by omega : p < kss.length) (by omega) (by omega), at2 _ (by omega : q < kss.length) (by omega) (by omega)]; simp; done)
/-- the same firm fours, with the same ties -/
def FourSame (kss ls : List (List Int)) : Prop := firmK ls = firmK kss ∧ ∀ l ∈ firmK kss, sixL ls l = sixL kss l
theorem Step.fours {k : Int} {kss ls : List (List Int)} (s : Step k kss ls) (f : Fine k kss) : FourSame kss ls := by
  obtain ⟨a, b, v, ab, hb, al, v0, vk, rfl⟩ := s
  have one : ∀ l ∈ Cmb.choices kss.length 4, firmL (sixL (setT kss b a v) l) = firmL (sixL kss l) ∧ (firmL (sixL kss l) = true → sixL (setT kss b a v) l = sixL kss l) := fun l hl => by
    obtain ⟨p, q, r, s, rfl, pq, qr, rs, sn⟩ := four_of hl
    by_cases h : a ∈ [p, q, r, s] ∧ b ∈ [p, q, r, s]
    · have e1 := firm_false al sn pq qr rs h.1 h.2 ab
      have e2 := firm_false (alike_setT f ab hb v al) (by rw [setT_len]; exact sn) pq qr rs h.1 h.2 ab
      rw [e1, e2]
      exact ⟨rfl, fun z => by cases z⟩
    · have e : ∀ i j, i ∈ [p, q, r, s] → j ∈ [p, q, r, s] → tieN (setT kss b a v) i j = tieN kss i j := fun i j hi hj => by
        rw [tie_setT f ab hb, if_neg]
        rintro ⟨h1, h2⟩
        apply h
        rcases Nat.le_total i j with z | z
        · rw [Nat.max_eq_right z] at h1
          rw [Nat.min_eq_left z] at h2
          subst h1 h2
          exact ⟨hi, hj⟩
        · rw [Nat.max_eq_left z] at h1
          rw [Nat.min_eq_right z] at h2
          subst h1 h2
          exact ⟨hj, hi⟩
      have e6 : sixL (setT kss b a v) [p, q, r, s] = sixL kss [p, q, r, s] := by
        show [_, _, _, _, _, _] = [_, _, _, _, _, _]
        show [tieN _ p q, tieN _ p r, tieN _ p s, tieN _ q r, tieN _ q s, tieN _ r s] = _
        rw [e p q (by simp) (by simp), e p r (by simp) (by simp), e p s (by simp) (by simp), e q r (by simp) (by simp), e q s (by simp) (by simp), e r s (by simp) (by simp)]
        rfl
      rw [e6]
      exact ⟨rfl, fun _ => rfl⟩
  have e : firmK (setT kss b a v) = firmK kss := by
    unfold firmK
    rw [setT_len]
    exact List.filter_congr fun l hl => (one l hl).1
  exact ⟨e, fun l hl => by
    obtain ⟨h1, h2⟩ := List.mem_filter.mp hl
    exact (one l h1).2 h2⟩
theorem FourSame.trans {kss ls ms : List (List Int)} (a : FourSame kss ls) (b : FourSame ls ms) : FourSame kss ms := ⟨b.1.trans a.1, fun l hl => (b.2 l (by rw [a.1]; exact hl)).trans (a.2 l hl)⟩
theorem Led.fours {k : Int} {kss ls : List (List Int)} (l : Led k kss ls) (f : Fine k kss) : FourSame kss ls := by
  induction l with
  | refl => exact ⟨rfl, fun _ _ => rfl⟩
  | step l s ih => exact ih.trans (s.fours (l.fine f))
end GL

namespace GL
open PySem PySem.Spec PyProof.Rows L2
section
variable {J : It} {n : Nat} {G : Hp → Prop} {Y : Nat → Hp → V → Hp → Prop}
/-- a comprehension of drawn numbers -/
theorem lc_draw (w : Walk J n G Y) {g : TG} {te : TE} {vs : List Nat} {σ : L2.St} {H1 : Hp} {D g0 : Addr} {Qd : Hp → Prop} {b c : Nat} {k : Int} (hD : H1 D = none) (Gn : Gen H1 g0 (b + c * n)) (hn : n ≤ sizeLine)
    (hG : ∀ H', But g0 H1 H' → G H')
    (hs : ∀ (i : Nat) (x : V) (H2 H3 : Hp) (N : V → Hp → Prop), i < n → But g0 H1 H2 → Gen H2 g0 (b + c * (n - (i + 1)) + c) → Y i H2 x H3 → (∀ H4 v, But g0 H2 H4 → Gen H4 g0 (b + c * (n - (i + 1))) → 0 ≤ v → v < k → N (.int v) H4) →
      g x (wipe σ vs) H3 fun σ2 H4 => wipe σ2 vs = wipe σ vs ∧ te σ2 H4 N)
    (hd : ∀ H' (ks : List Int), But g0 H1 H' → Gen H' g0 b → H' D = some (.lst (ks.map V.int)) → ks.length = n → (∀ z ∈ ks, 0 ≤ z ∧ z < k) → Qd H') :
    ∃ W : Nat → Nat → Hp → Prop, (∃ m, W 0 m (upd H1 D (.lst []))) ∧ ∀ i m H, W i m H →
      (J.stop i H ∧ Qd H) ∨ (J.go i H ∧ ∃ Nx : Hp → Prop, (∀ H', Nx H' → ∃ m', m' < m ∧ W (i + 1) m' H') ∧ ∀ x H', J.yld i H x H' → g x (wipe σ vs) H' fun σ2 H2 => wipe σ2 vs = wipe σ vs ∧ tYes σ2 H2 fun b H3 =>
        if b = true then te σ2 H3 fun y H4 => ∃ acc, H4 D = some (.lst acc) ∧ acc.length < sizeLine ∧ Nx (upd H4 D (.lst (acc ++ [y]))) else Nx H3) := by
  have gD : D ≠ g0 := (Gn.ne hD).symm
  refine lc_it w (fun i H' => But g0 H1 H' ∧ Gen H' g0 (b + c * (n - i)) ∧ ∃ ks : List Int, H' D = some (.lst (ks.map V.int)) ∧ ks.length = i ∧ ∀ z ∈ ks, 0 ≤ z ∧ z < k)
    ⟨But.new hD, Gn.new hD, [], upd_same, rfl, by simp⟩ (fun i H' _ z => hG H' z.1) ?_ fun H' ⟨a, b, ks, e, l, z⟩ => hd H' ks a (b.less (by omega)) e l z
  rintro i x H2 H3 hi ⟨s, G2, ks, e, l, z⟩ y
  have en : b + c * (n - i) = b + c * (n - (i + 1)) + c := by
    rw [show n - i = (n - (i + 1)) + 1 by omega, Nat.mul_add_one]
    omega
  rw [en] at G2
  refine hs i x H2 H3 _ hi s G2 y (fun H4 v s4 G4 v0 vk => ?_)
  refine ⟨_, s4 _ _ e gD, ?_, fun b o e' nb => ?_, G4.other gD, ks ++ [v], ?_, ?_, ?_⟩
  · rw [List.length_map, l]
    omega
  · rw [upd_ne (ne_of_none e' hD)]
    exact s4 _ _ (s _ _ e' nb) nb
  · rw [upd_same, List.map_append]
    rfl
  · rw [List.length_append, l]
    rfl
  · intro q hq
    rcases List.mem_append.mp hq with hq | hq
    · exact z q hq
    · rw [List.mem_singleton] at hq
      subst hq
      exact ⟨v0, vk⟩
end
theorem walk_nat {n : Nat} : Walk (Itr 0 n) n (fun _ => True) (fun i H x H' => H' = H ∧ x = .int (i : Nat)) := ⟨fun _ _ hi _ => hi, fun _ _ => Nat.le_refl _, fun i _ x _ _ _ y => ⟨y.1, by rw [y.2, Int.zero_add]⟩⟩
theorem walk_from {a n : Nat} : Walk (Itr (a : Nat) n) n (fun _ => True) (fun i H x H' => H' = H ∧ x = .int ((a + i : Nat) : Int)) := ⟨fun _ _ hi _ => hi, fun _ _ => Nat.le_refl _, fun i _ x _ _ _ y => ⟨y.1, by rw [y.2]; congr 1⟩⟩
theorem gName_by {i : Nat} {v : V} {σ : L2.St} {H : Hp} {Q : L2.St → Hp → Prop} (h : Q (σ.set i (some v)) H) : gName i v σ H Q := h
/-- the rows made so far at f, in draws from g -/
def Rowed (H : Hp) (g f : Addr) (k : Int) (b i : Nat) (H' : Hp) : Prop := But g H H' ∧ Gen H' g b ∧ ∃ rs kss, Tab H' f rs kss ∧ kss.length = i ∧ Fine k kss ∧ f ∉ rs ∧ H f = none ∧ ∀ r ∈ rs, H r = none
theorem Rowed.next {H H' H3 : Hp} {g f p : Addr} {k : Int} {b b' i nn : Nat} {ks : List Int} (G0 : Gen H g nn) (r : Rowed H g f k b i H') (b3 : But g H' H3) (G3 : Gen H3 g b') (hp : H' p = none) (h3 : H3 p = some (.lst (ks.map V.int))) (lks : ks.length = i) (bk : ∀ z ∈ ks, 0 ≤ z ∧ z < k) :
    ∃ xs : List V, H3 f = some (.lst xs) ∧ xs.length = i ∧ Rowed H g f k b' (i + 1) (upd H3 f (.lst (xs ++ [V.ref p]))) := by
  obtain ⟨bt, G', rs, kss, t, lk, fine, nf, hf, nR⟩ := r
  have gf : g ≠ f := G0.ne hf
  have gr : g ∉ rs := notin_new G0 nR
  obtain ⟨t2, n2⟩ := t.push nf (H4 := H3) (fun r hr o e => b3 r o e (fun z => gr (by rw [← z]; exact hr))) hp h3
  refine ⟨_, b3 _ _ t.top gf.symm, by rw [List.length_map, t.len, lk], ?_, G3.other gf.symm, _, _, t2, by rw [List.length_append, lk]; rfl, fine.push (by omega) bk, n2, hf, ?_⟩
  · intro b o e nb
    rw [upd_ne (ne_of_none e hf)]
    exact b3 b o (bt b o e nb) nb
  · intro r hr
    rcases List.mem_append.mp hr with hr | hr
    · exact nR r hr
    · rw [List.mem_singleton] at hr
      subst hr
      exact but_free bt G' hp
def spGrown : Sp := fun vs H Q _ => ∃ (g : Addr) (k : Int) (m n : Nat), vs = [.ref g, .int k, .int m] ∧ 2 ≤ k ∧ k ≤ 9 ∧ 1 ≤ m ∧ m ≤ 20 ∧ Gen H g (n + 4000) ∧ ∀ (p : Addr) (rs : List Addr) (kss : List (List Int)) (H' : Hp), But g H H' → Gen H' g n → Tab H' p rs kss → Fine k kss → kss.length = m → H p = none → (∀ r ∈ rs, H r = none) → Q (.ref p) H'
end GL

namespace GL
open PySem PySem.Spec PyProof.Rows L2
abbrev NearT := Addr × List Addr × List (List Int)
/-- at p a list of companies that one deed makes, all new -/
structure Nears (H0 H : Hp) (p : Addr) (us : List NearT) (k : Int) (kss : List (List Int)) : Prop where
  top : H p = some (.lst (us.map fun u => V.ref u.1))
  tab : ∀ u ∈ us, Tab (hid H p) u.1 u.2.1 u.2.2 ∧ Step k kss u.2.2
  new : ∀ u ∈ us, H0 u.1 = none ∧ ∀ r ∈ u.2.1, H0 r = none
theorem Nears.same {H0 H H' : Hp} {p : Addr} {us : List NearT} {k : Int} {kss : List (List Int)} (n : Nears H0 H p us k kss) (s : Same H H') : Nears H0 H' p us k kss :=
  ⟨s _ _ n.top, fun u hu => ⟨(n.tab u hu).1.same (hid_mono s), (n.tab u hu).2⟩, n.new⟩
theorem Nears.push {H0 H H' : Hp} {p c : Addr} {us : List NearT} {rs : List Addr} {k : Int} {kss ls : List (List Int)} (n : Nears H0 H p us k kss) (s : Same H H') (t : Tab H' c rs ls) (pc : p ≠ c) (pr : p ∉ rs) (st : Step k kss ls) (n1 : H0 c = none) (n2 : ∀ r ∈ rs, H0 r = none) :
    Nears H0 (upd H' p (.lst ((us.map fun u => V.ref u.1) ++ [V.ref c]))) p (us ++ [(c, rs, ls)]) k kss := by
  refine ⟨by rw [upd_same, List.map_append]; rfl, fun u hu => ?_, fun u hu => ?_⟩
  rotate_left
  · rcases List.mem_append.mp hu with hu | hu
    · exact n.new u hu
    · rw [List.mem_singleton] at hu
      subst hu
      exact ⟨n1, n2⟩
  rw [hid_upd]
  rcases List.mem_append.mp hu with hu | hu
  · exact ⟨(n.tab u hu).1.same (hid_mono s), (n.tab u hu).2⟩
  · rw [List.mem_singleton] at hu
    subst hu
    exact ⟨⟨hid_in t.top pc.symm, t.len, fun i r ks a b => hid_in (t.row i r ks a b) fun z => pr (by rw [← z]; exact List.mem_of_getElem? a), t.nd⟩, st⟩
/-- a number of one row is put -/
theorem Tab.put {H : Hp} {c r : Addr} {rs : List Addr} {kss : List (List Int)} {ks : List Int} {b a : Nat} {v : Int} (t : Tab H c rs kss) (hb : rs[b]? = some r) (hk : kss[b]? = some ks) (cr : c ∉ rs) :
    Tab (upd H r (.lst ((ks.map V.int).set a (.int v)))) c rs (setT kss b a v) := by
  have c1 : c ≠ r := fun z => cr (by rw [z]; exact List.mem_of_getElem? hb)
  refine ⟨by rw [upd_ne c1]; exact t.top, by rw [setT_len]; exact t.len, fun i q ls h1 h2 => ?_, t.nd⟩
  unfold setT at h2
  rw [List.getElem?_set] at h2
  by_cases e : b = i
  · subst e
    rw [if_pos rfl, if_pos (List.getElem?_eq_some_iff.mp hk).1] at h2
    cases h2
    rw [hb] at h1
    cases h1
    rw [upd_same, List.getD_eq_getElem?_getD, hk, List.map_set]
    rfl
  · rw [if_neg e] at h2
    have qr : q ≠ r := fun z => by
      subst z
      have h3 := List.getElem?_eq_some_iff.mp h1
      have h4 := List.getElem?_eq_some_iff.mp hb
      exact e ((List.getElem_inj t.nd).mp (h4.2.trans h3.2.symm))
    rw [upd_ne qr]
    exact t.row i q ls h1 h2
def spNear : Sp := fun vs H Q _ => ∃ (k : Int) (c : Addr) (rs : List Addr) (kss : List (List Int)), vs = [.int k, .ref c] ∧ 2 ≤ k ∧ k ≤ 9 ∧ Tab H c rs kss ∧ Fine k kss ∧ kss.length ≤ 20 ∧
  ∀ (p : Addr) (us : List NearT) (H' : Hp), Same H H' → H p = none → us.length ≤ 4000 → Nears H H' p us k kss → Q (.ref p) H'
def spLed : Sp := fun vs H Q _ => ∃ (g : Addr) (k : Int) (c : Addr) (t n : Nat) (rs : List Addr) (kss : List (List Int)), vs = [.ref g, .int k, .ref c, .int t] ∧ t ≤ 100 ∧ 2 ≤ k ∧ k ≤ 9 ∧ Gen H g (n + 5 * t) ∧ Tab H c rs kss ∧ Fine k kss ∧ kss.length ≤ 20 ∧ c ≠ g ∧ g ∉ rs ∧
  ∀ (p : Addr) (ps : List Addr) (ls : List (List Int)) (H' : Hp), But g H H' → Gen H' g n → Tab H' p ps ls → Led k kss ls → p ≠ g → g ∉ ps → Q (.ref p) H'
end GL

namespace GL
open PySem PySem.Spec PyProof.Rows L2
/-! ### the parts of a reading, by name -/
theorem tLc_of {wi : TI} {g : TG} {tt : TT} {te : TE} {vs : List Nat} {σ : L2.St} {H : Hp} {Q : VK} (h : wi σ H fun J H1 => ∀ D, H1 D = none → ∃ W : Nat → Nat → Hp → Prop, (∃ m, W 0 m (upd H1 D (.lst []))) ∧ ∀ i m H, W i m H →
  (J.stop i H ∧ Q (.ref D) H) ∨ (J.go i H ∧ ∃ Nx : Hp → Prop, (∀ H', Nx H' → ∃ m', m' < m ∧ W (i + 1) m' H') ∧ ∀ x H', J.yld i H x H' → g x (wipe σ vs) H' fun σ2 H2 => wipe σ2 vs = wipe σ vs ∧ tt σ2 H2 fun b H3 =>
    if b = true then te σ2 H3 fun y H4 => ∃ acc, H4 D = some (.lst acc) ∧ acc.length < sizeLine ∧ Nx (upd H4 D (.lst (acc ++ [y]))) else Nx H3)) : tLc wi g tt te vs σ H Q := h
theorem iRng2_of {ta : TA} {σ : L2.St} {H : Hp} {R : It → Hp → Prop} (h : ta σ H fun vs H1 => ∃ i j : Int, vs = [.int i, .int j] ∧ (-(2 ^ 62) ≤ i ∧ i < 2 ^ 62 ∧ -(2 ^ 62) ≤ j ∧ j < 2 ^ 62) ∧ R (Itr i (j - i).toNat) H1) : iRng2 ta σ H R := h
theorem tCons_of {t : TE} {u : TA} {σ : L2.St} {H : Hp} {Q : List V → Hp → Prop} (h : t σ H fun x H1 => u σ H1 fun xs H2 => Q (x :: xs) H2) : tCons t u σ H Q := h
theorem tAsg_of {t : TE} {g : TG} {D : Ends} {σ : L2.St} {H : Hp} (h : t σ H fun x H1 => g x σ H1 D.nx) : tAsg t g D σ H := h
theorem tSeq_of {a b : TS} {D : Ends} {σ : L2.St} {H : Hp} (h : a { D with nx := fun σ' H' => b D σ' H' } σ H) : tSeq a b D σ H := h
theorem tNext_of {D : Ends} {σ : L2.St} {H : Hp} (h : D.nx σ H) : tNext D σ H := h
theorem tOp_of {r : R2} {a b : TE} {σ : L2.St} {H : Hp} {Q : VK} (h : a σ H fun x H1 => b σ H1 fun y H2 => r x y H2 Q) : tOp r a b σ H Q := h
/-- an expression by what it gives -/
theorem te_by {t : TE} {σ : L2.St} {H : Hp} {Q : VK} (R : V → Hp → Prop) (h1 : ∀ Q' : VK, (∀ v H', R v H' → Q' v H') → t σ H Q') (h2 : ∀ v H', R v H' → Q v H') : t σ H Q := h1 _ h2
theorem tIf_by {tA : TT} {ta tb : TE} {σ : L2.St} {H : Hp} {Q : VK} (R : V → Hp → Prop) (h1 : ∀ Q' : VK, (∀ v H', R v H' → Q' v H') → tIf tA ta tb σ H Q') (h2 : ∀ v H', R v H' → Q v H') : tIf tA ta tb σ H Q := h1 _ h2
/-! ### texts that fit -/
def Fit (B d : Nat) (x : PyData) : Prop := x.shown.length ≤ B ∧ x.showable = true ∧ x.depth ≤ d
theorem Fit.leaf {x : PyData} (h : Leaf x) : Fit 110 1 x := Leaf.shown h
theorem Fit.int {i : Int} (h : i.natAbs < 2 ^ 100) : Fit 110 1 (.int i) := Leaf.shown h
theorem Fit.more {B d B' d' : Nat} {x : PyData} (h : Fit B d x) (b : B ≤ B') (e : d ≤ d') : Fit B' d' x := ⟨Nat.le_trans h.1 b, h.2.1, Nat.le_trans h.2.2 e⟩
theorem Fit.list {B d n : Nat} {ds : List PyData} (h : ∀ e ∈ ds, Fit B d e) (l : ds.length ≤ n) : Fit (3 + n * (B + 2)) (d + 1) (.list ds) := by
  have pl := piled_le (B := B) fun x hx => (h x hx).1
  have sh := showableAll_of fun x hx => (h x hx).2.1
  have dp := depthAll_of (n := d) fun x hx => (h x hx).2.2
  have m : ds.length * (B + 2) ≤ n * (B + 2) := Nat.mul_le_mul_right _ l
  refine ⟨?_, by simp only [PyData.showable]; exact sh, by simp only [PyData.depth]; omega⟩
  simp only [PyData.shown]
  have := listText_le (PyData.shownAll ds)
  omega
theorem Fit.tuple {B d n : Nat} {ds : List PyData} (h : ∀ e ∈ ds, Fit B d e) (l : ds.length ≤ n) : Fit (3 + n * (B + 2)) (d + 1) (.tuple ds) := by
  have pl := piled_le (B := B) fun x hx => (h x hx).1
  have sh := showableAll_of fun x hx => (h x hx).2.1
  have dp := depthAll_of (n := d) fun x hx => (h x hx).2.2
  have m : ds.length * (B + 2) ≤ n * (B + 2) := Nat.mul_le_mul_right _ l
  refine ⟨?_, by simp only [PyData.showable]; exact sh, by simp only [PyData.depth]; omega⟩
  simp only [PyData.shown]
  have := tupleText_le (PyData.shownAll ds)
  omega
theorem Fit.fits {B d : Nat} {x : PyData} (h : Fit B d x) (b : B ≤ 16777216) (e : d ≤ 60) : x.showable = true ∧ x.shown.length ≤ sizeLine ∧ x.depth ≤ 60 := ⟨h.2.1, Nat.le_trans h.1 (by rw [sizeLine_eq]; exact b), Nat.le_trans h.2.2 e⟩
theorem Fit.ints {n : Nat} {ns : List Int} (l : ns.length ≤ n) (b : ∀ z ∈ ns, z.natAbs < 2 ^ 100) : Fit (3 + n * 112) 2 (rowP ns) := Fit.list (B := 110) (d := 1) (fun e he => by
  obtain ⟨z, hz, rfl⟩ := List.mem_map.mp he
  exact Fit.int (b z hz)) (by rw [List.length_map]; exact l)
theorem tieN_abs {k : Int} {kss : List (List Int)} (f : Fine k kss) (hk : k ≤ 100) (i j : Nat) : (tieN kss i j).natAbs < 2 ^ 100 := by
  unfold tieN
  rw [List.getD_eq_getElem?_getD, List.getD_eq_getElem?_getD]
  cases e : kss[max i j]? with
  | none => simp
  | some ks =>
    show (((ks[min i j]?).getD 0 : Int)).natAbs < _
    cases e2 : ks[min i j]? with
    | none => simp
    | some z =>
      have := (f _ _ e).2 z (List.mem_of_getElem? e2)
      show z.natAbs < _
      omega
/-! ### lots -/
def loN (l : List Nat) : Nat := match l.getLast? with | none => 0 | some x => x + 1
def extN (n : Nat) (l : List Nat) : List (List Nat) := (List.range (n - loN l)).map fun j => l ++ [loN l + j]
def lotsK (n : Nat) : Nat → List (List Nat)
  | 0 => [[]]
  | m + 1 => (lotsK n m).flatMap (extN n)
theorem lots_len (n : Nat) : ∀ m, (lotsK n m).length ≤ n ^ m
  | 0 => Nat.le_refl _
  | m + 1 => by
    have ih := lots_len n m
    show ((lotsK n m).flatMap (extN n)).length ≤ _
    generalize lotsK n m = L at ih
    have : ∀ L : List (List Nat), (L.flatMap (extN n)).length ≤ L.length * n := fun L => by
      induction L with
      | nil => simp
      | cons a L ih =>
        rw [List.flatMap_cons, List.length_append, List.length_cons, Nat.succ_mul]
        have : (extN n a).length ≤ n := by
          unfold extN
          rw [List.length_map, List.length_range]
          omega
        omega
    rw [Nat.pow_succ]
    exact Nat.le_trans (this L) (Nat.mul_le_mul_right _ ih)
theorem ext_len (n : Nat) (l : List Nat) : (extN n l).length ≤ n := by
  unfold extN
  rw [List.length_map, List.length_range]
  omega
theorem lots_ok (n : Nat) : ∀ m, ∀ l ∈ lotsK n m, l.length = m ∧ loN l ≤ n
  | 0, l, h => by
    have h : l ∈ [[]] := h
    rw [List.mem_singleton] at h
    subst h
    exact ⟨rfl, Nat.zero_le _⟩
  | m + 1, l, h => by
    have h : l ∈ (lotsK n m).flatMap (extN n) := h
    obtain ⟨l', h1, h2⟩ := List.mem_flatMap.mp h
    obtain ⟨j, hj, rfl⟩ := List.mem_map.mp h2
    have := List.mem_range.mp hj
    obtain ⟨e, _⟩ := lots_ok n m l' h1
    refine ⟨by rw [List.length_append, e]; rfl, ?_⟩
    have : loN (l' ++ [loN l' + j]) = loN l' + j + 1 := by
      show (match (l' ++ [loN l' + j]).getLast? with | none => 0 | some x => x + 1) = _
      rw [List.getLast?_append]
      rfl
    omega
abbrev Lists (H0 H : Hp) (p : Addr) (rs : List Addr) (L : List (List Nat)) : Prop := Objs H0 H p rs L.length fun i => .lst (natV (L.getD i []))
theorem Objs.held {H0 H : Hp} {p : Addr} {rs : List Addr} {n : Nat} {o : Nat → HO} (a : Objs H0 H p rs n o) {r : Addr} (h : r ∈ rs) : ∃ u, H r = some u := by
  obtain ⟨j, hj⟩ := List.getElem?_of_mem h
  exact ⟨_, a.row j r hj⟩
theorem Lists.cat {H0 H1 H2 H3 : Hp} {p1 p2 p3 : Addr} {rs1 rs2 : List Addr} {L1 L2 : List (List Nat)} (a : Lists H0 H1 p1 rs1 L1) (b : Lists H1 H2 p2 rs2 L2) (s01 : Same H0 H1) (s12 : Same H1 H2) (s23 : Same H2 H3) (hp : H2 p3 = none) (h3 : H3 p3 = some (.lst (rs1.map V.ref ++ rs2.map V.ref))) :
    Lists H0 H3 p3 (rs1 ++ rs2) (L1 ++ L2) := by
  refine ⟨by rw [h3, List.map_append], by rw [List.length_append, List.length_append, a.len, b.len], fun i r h => ?_, ?_, ?_, fun r h => ?_⟩
  · by_cases c : i < rs1.length
    · rw [List.getElem?_append_left c] at h
      rw [s23 _ _ (s12 _ _ (a.row i r h)), List.getD_eq_getElem?_getD, List.getD_eq_getElem?_getD, List.getElem?_append_left (by rw [← a.len]; exact c)]
    · rw [List.getElem?_append_right (by omega)] at h
      have e := a.len
      rw [s23 _ _ (b.row _ r h), List.getD_eq_getElem?_getD, List.getD_eq_getElem?_getD, List.getElem?_append_right (by omega), e]
  · rw [List.nodup_append]
    refine ⟨a.nd, b.nd, fun x hx y hy z => ?_⟩
    subst z
    obtain ⟨u, hu⟩ := a.held hx
    rw [b.new x hy] at hu
    cases hu
  · intro h
    rcases List.mem_append.mp h with h | h
    · obtain ⟨u, hu⟩ := a.held h
      rw [s12 _ _ hu] at hp
      cases hp
    · obtain ⟨u, hu⟩ := b.held h
      rw [hu] at hp
      cases hp
  · rcases List.mem_append.mp h with h | h
    · exact a.new r h
    · exact s01.free (b.new r h)
def spLots : Sp := fun vs H Q _ => ∃ n m : Nat, vs = [.int n, .int m] ∧ n ≤ 20 ∧ m ≤ 5 ∧ ∀ (p : Addr) (rs : List Addr) (H' : Hp), Same H H' → H p = none → Lists H H' p rs (lotsK n m) → Q (.ref p) H'
theorem lots_fours : ∀ n, n ≤ 10 → lotsK n 4 = Cmb.choices n 4 := by decide +kernel
theorem nat_last {l : List Nat} (h : l ≠ []) : ∃ x : Nat, loN l = x + 1 ∧ atI (natV l) (((natV l).length : Int) - 1) = some (.int x) := by
  have hl : 0 < l.length := List.length_pos_iff.mpr h
  refine ⟨l[l.length - 1], ?_, at_of (j := l.length - 1) ?_ ?_⟩
  · unfold loN
    rw [List.getLast?_eq_getElem?, List.getElem?_eq_getElem (by omega)]
  · unfold natV
    rw [List.length_map]
    omega
  · unfold natV
    rw [List.getElem?_map, List.getElem?_eq_getElem (by omega)]
    rfl
theorem take_flat (L : List (List Nat)) (f : List Nat → List (List Nat)) {i : Nat} (h : i < L.length) : (L.take (i + 1)).flatMap f = (L.take i).flatMap f ++ f (L.getD i []) := by
  rw [List.take_add_one, List.flatMap_append, List.getElem?_eq_getElem h, List.getD_eq_getElem?_getD, List.getElem?_eq_getElem h]
  show _ ++ [L[i]].flatMap f = _ ++ f L[i]
  rw [List.flatMap_cons, List.flatMap_nil, List.append_nil]
theorem flat_len (L : List (List Nat)) (n : Nat) : (L.flatMap (extN n)).length ≤ L.length * n := by
  induction L with
  | nil => simp
  | cons a L ih =>
    rw [List.flatMap_cons, List.length_append, List.length_cons, Nat.succ_mul]
    have := ext_len n a
    omega
end GL

namespace GL
open PySem PySem.Spec PyProof.Rows L2
def c6 (i : Nat) : Nat × Nat := (cplTo 4 4).getD i (0, 0)
theorem firm_named {k : Int} {kss : List (List Int)} (f : Fine k kss) {p q r s : Nat} (pq : p < q) (qr : q < r) (rs : r < s) (hs : s < kss.length) : (((List.range 6).filter fun i => alikeB (namedK kss [p, q, r, s]) (c6 i).1 (c6 i).2).map fun _ => V.int 1).isEmpty = firmL (sixL kss [p, q, r, s]) := by
  have e : ∀ i j, i < 4 → j < 4 → i ≠ j → tieN (namedK kss [p, q, r, s]) i j = tieN kss ([p, q, r, s].getD i 0) ([p, q, r, s].getD j 0) := fun i j hi hj ne => tie_named (os := [p, q, r, s]) hi hj ne
  have ln : (namedK kss [p, q, r, s]).length = 4 := named_len _ _
  have r4 : List.range 4 = [0, 1, 2, 3] := rfl
  have r6 : List.range 6 = [0, 1, 2, 3, 4, 5] := rfl
  have a01 : alikeB (namedK kss [p, q, r, s]) 0 1 = (decide (tieN kss p r = tieN kss q r) && decide (tieN kss p s = tieN kss q s)) := by
    unfold alikeB
    rw [ln, r4]
    have x1 := e 2 0 (by decide) (by decide) (by decide)
    have x2 := e 2 1 (by decide) (by decide) (by decide)
    have x3 := e 3 0 (by decide) (by decide) (by decide)
    have x4 := e 3 1 (by decide) (by decide) (by decide)
    simp only [List.all_cons, List.all_nil, x1, x2, x3, x4]
    simp [tieN_comm kss r, tieN_comm kss s]
  have a02 : alikeB (namedK kss [p, q, r, s]) 0 2 = (decide (tieN kss p q = tieN kss q r) && decide (tieN kss p s = tieN kss r s)) := by
    unfold alikeB
    rw [ln, r4]
    have x1 := e 1 0 (by decide) (by decide) (by decide)
    have x2 := e 1 2 (by decide) (by decide) (by decide)
    have x3 := e 3 0 (by decide) (by decide) (by decide)
    have x4 := e 3 2 (by decide) (by decide) (by decide)
    simp only [List.all_cons, List.all_nil, x1, x2, x3, x4]
    simp [tieN_comm kss q p, tieN_comm kss s]
  have a03 : alikeB (namedK kss [p, q, r, s]) 0 3 = (decide (tieN kss p q = tieN kss q s) && decide (tieN kss p r = tieN kss r s)) := by
    unfold alikeB
    rw [ln, r4]
    have x1 := e 1 0 (by decide) (by decide) (by decide)
    have x2 := e 1 3 (by decide) (by decide) (by decide)
    have x3 := e 2 0 (by decide) (by decide) (by decide)
    have x4 := e 2 3 (by decide) (by decide) (by decide)
    simp only [List.all_cons, List.all_nil, x1, x2, x3, x4]
    simp [tieN_comm kss q p, tieN_comm kss r p]
  have a12 : alikeB (namedK kss [p, q, r, s]) 1 2 = (decide (tieN kss p q = tieN kss p r) && decide (tieN kss q s = tieN kss r s)) := by
    unfold alikeB
    rw [ln, r4]
    have x1 := e 0 1 (by decide) (by decide) (by decide)
    have x2 := e 0 2 (by decide) (by decide) (by decide)
    have x3 := e 3 1 (by decide) (by decide) (by decide)
    have x4 := e 3 2 (by decide) (by decide) (by decide)
    simp only [List.all_cons, List.all_nil, x1, x2, x3, x4]
    simp [tieN_comm kss s]
  have a13 : alikeB (namedK kss [p, q, r, s]) 1 3 = (decide (tieN kss p q = tieN kss p s) && decide (tieN kss q r = tieN kss r s)) := by
    unfold alikeB
    rw [ln, r4]
    have x1 := e 0 1 (by decide) (by decide) (by decide)
    have x2 := e 0 3 (by decide) (by decide) (by decide)
    have x3 := e 2 1 (by decide) (by decide) (by decide)
    have x4 := e 2 3 (by decide) (by decide) (by decide)
    simp only [List.all_cons, List.all_nil, x1, x2, x3, x4]
    simp [tieN_comm kss r q]
  have a23 : alikeB (namedK kss [p, q, r, s]) 2 3 = (decide (tieN kss p r = tieN kss p s) && decide (tieN kss q r = tieN kss q s)) := by
    unfold alikeB
    rw [ln, r4]
    have x1 := e 0 2 (by decide) (by decide) (by decide)
    have x2 := e 0 3 (by decide) (by decide) (by decide)
    have x3 := e 1 2 (by decide) (by decide) (by decide)
    have x4 := e 1 3 (by decide) (by decide) (by decide)
    simp only [List.all_cons, List.all_nil, x1, x2, x3, x4]
    simp
  have em : ∀ l : List Nat, ∀ g : Nat → Bool, ((l.filter g).map fun _ => V.int 1).isEmpty = l.all fun i => !g i := fun l g => by
    induction l with
    | nil => rfl
    | cons a l ih =>
      rw [List.filter_cons, List.all_cons]
      cases g a with
      | true => rfl
      | false =>
        rw [if_neg (by decide), ih]
        rfl
  rw [em, r6]
  show (!alikeB _ 0 1 && (!alikeB _ 0 2 && (!alikeB _ 0 3 && (!alikeB _ 1 2 && (!alikeB _ 1 3 && (!alikeB _ 2 3 && true)))))) = firmB (tieN kss p q) (tieN kss p r) (tieN kss p s) (tieN kss q r) (tieN kss q s) (tieN kss r s)
  rw [a01, a02, a03, a12, a13, a23]
  unfold firmB
  have db : ∀ x y : Int, (x == y) = decide (x = y) := fun x y => by by_cases h : x = y <;> simp [h]
  simp only [Bool.and_true, Bool.not_or, db]
theorem six_named {k : Int} {kss : List (List Int)} {p q r s : Nat} : ((List.range 6).map fun i => V.int (tieN (namedK kss [p, q, r, s]) (c6 i).1 (c6 i).2)) = (sixL kss [p, q, r, s]).map V.int := by
  have e : ∀ i j, i < 4 → j < 4 → i ≠ j → tieN (namedK kss [p, q, r, s]) i j = tieN kss ([p, q, r, s].getD i 0) ([p, q, r, s].getD j 0) := fun i j hi hj ne => tie_named (os := [p, q, r, s]) hi hj ne
  have r6 : List.range 6 = [0, 1, 2, 3, 4, 5] := rfl
  rw [r6]
  show [V.int (tieN _ 0 1), V.int (tieN _ 0 2), V.int (tieN _ 0 3), V.int (tieN _ 1 2), V.int (tieN _ 1 3), V.int (tieN _ 2 3)] = _
  rw [e 0 1 (by decide) (by decide) (by decide), e 0 2 (by decide) (by decide) (by decide), e 0 3 (by decide) (by decide) (by decide), e 1 2 (by decide) (by decide) (by decide), e 1 3 (by decide) (by decide) (by decide), e 2 3 (by decide) (by decide) (by decide)]
  rfl
/-- the firm fours of a company, as data -/
def fourP (kss : List (List Int)) (l : List Nat) : PyData := .tuple [rowP (nums l), rowP (sixL kss l)]
def foursP (kss : List (List Int)) : PyData := .list ((firmK kss).map (fourP kss))
theorem Frs.dt {K : PySem.W.Frag} {f : List Nat → List Int} {H0 H : Hp} {p : Addr} {ts : List FourT} (R : Frs f H0 H p ts) : Dt K H (.ref p) (.list ((ts.map (·.2.2.2)).map fun l => .tuple [rowP (nums l), rowP (f l)])) := by
  refine .lst R.top ?_
  have g : ∀ us : List FourT, (∀ t ∈ us, t ∈ ts) → Dts K H (us.map fun t => V.ref t.1) ((us.map (·.2.2.2)).map fun l => .tuple [rowP (nums l), rowP (f l)]) := fun us => by
    induction us with
    | nil => exact fun _ => .nil
    | cons u us ih =>
      intro h
      obtain ⟨a1, a2, a3⟩ := R.row u (h u (List.mem_cons_self ..))
      exact .cons (.tup a1 (.cons (nat_dt a2) (.cons (.lst a3 (dts_ints _)) .nil))) (ih fun t ht => h t (List.mem_cons_of_mem _ ht))
  exact g ts fun _ h => h
theorem fours_dt {K : PySem.W.Frag} {kss : List (List Int)} {H0 H : Hp} {p : Addr} {ts : List FourT} (R : Frs (sixL kss) H0 H p ts) (e : ts.map (·.2.2.2) = firmK kss) : Dt K H (.ref p) (foursP kss) := by
  have := R.dt (K := K)
  rw [e] at this
  exact this
theorem fours_fit {k : Int} {kss : List (List Int)} (f : Fine k kss) (hk : k ≤ 9) (hn : kss.length ≤ 14) : (foursP kss).showable = true ∧ (foursP kss).shown.length ≤ sizeLine ∧ (foursP kss).depth ≤ 60 := by
  have one : ∀ l ∈ firmK kss, Fit 1600 3 (fourP kss l) := fun l hl => by
    obtain ⟨p, q, r, s, rfl, pq, qr, rs, sn⟩ := four_of (List.mem_filter.mp hl).1
    have h1 : Fit 675 2 (rowP (nums [p, q, r, s])) := Fit.ints (n := 6) (by show 4 ≤ 6; decide) fun z hz => by
      unfold nums at hz
      obtain ⟨j, hj, rfl⟩ := List.mem_map.mp hz
      have : j < 14 := by
        simp at hj
        omega
      show ((j : Nat) : Int).natAbs < 2 ^ 100
      omega
    have h2 : Fit 675 2 (rowP (sixL kss [p, q, r, s])) := Fit.ints (n := 6) (by show 6 ≤ 6; decide) fun z hz => by
      have : ∃ i j, z = tieN kss i j := by
        unfold sixL at hz
        simp at hz
        rcases hz with h | h | h | h | h | h <;> exact ⟨_, _, h⟩
      obtain ⟨i, j, rfl⟩ := this
      exact tieN_abs f (by omega) i j
    exact (Fit.tuple (B := 675) (d := 2) (n := 2) (fun e he => by
      rcases List.mem_cons.mp he with rfl | he
      · exact h1
      · rw [List.mem_singleton] at he
        subst he
        exact h2) (Nat.le_refl _)).more (by decide) (Nat.le_refl _)
  have len : (firmK kss).length ≤ 2380 := by
    have h1 : (firmK kss).length ≤ (Cmb.choices kss.length 4).length := List.length_filter_le _ _
    have h2 : ∀ n, n ≤ 14 → (Cmb.choices n 4).length ≤ 2380 := by decide +kernel
    exact Nat.le_trans h1 (h2 _ hn)
  exact (Fit.list (B := 1600) (d := 3) (n := 2380) (fun e he => by
    obtain ⟨l, hl, rfl⟩ := List.mem_map.mp he
    exact one l hl) (by rw [List.length_map]; exact len)).fits (by decide) (by decide)
def spFirm2 : Sp := fun vs H Q _ => ∃ (c : Addr) (rs : List Addr) (kss : List (List Int)) (k : Int), vs = [.ref c] ∧ Tab H c rs kss ∧ Fine k kss ∧ kss.length ≤ 10 ∧
  ∀ (p : Addr) (ts : List FourT) (H' : Hp), Same H H' → H p = none → Frs (sixL kss) H H' p ts → ts.map (·.2.2.2) = firmK kss → Q (.ref p) H'
end GL

namespace GL
open PySem PySem.Spec PyProof.Rows L2
theorem cells_cons (t : FourT) (ts : List FourT) : cells (t :: ts) = t.2.1 :: t.2.2.1 :: cells ts := rfl
theorem cells_own {ts : List FourT} (nd : (cells ts).Nodup) {t : FourT} (h : t ∈ ts) : t.2.1 ≠ t.2.2.1 := by
  induction ts with
  | nil => cases h
  | cons u ts ih =>
    rw [cells_cons, List.nodup_cons, List.nodup_cons] at nd
    rcases List.mem_cons.mp h with rfl | h
    · exact fun z => nd.1 (by rw [z]; exact List.mem_cons_self ..)
    · exact ih nd.2.2 h
theorem cells_sep {ts : List FourT} (nd : (cells ts).Nodup) : ∀ {i j : Nat} {t u : FourT}, ts[i]? = some t → ts[j]? = some u → i ≠ j → ∀ x y, (x = t.2.1 ∨ x = t.2.2.1) → (y = u.2.1 ∨ y = u.2.2.1) → x ≠ y := by
  induction ts with
  | nil => intro i j t u h1; simp at h1
  | cons a ts ih =>
    rw [cells_cons, List.nodup_cons, List.nodup_cons] at nd
    have far : ∀ {k : Nat} {u : FourT}, ts[k]? = some u → ∀ x y, (x = a.2.1 ∨ x = a.2.2.1) → (y = u.2.1 ∨ y = u.2.2.1) → x ≠ y := fun {k u} h x y hx hy z => by
      subst z
      have m : x ∈ cells ts := cells_mem.mpr ⟨u, List.mem_of_getElem? h, hy⟩
      rcases hx with rfl | rfl
      · exact nd.1 (List.mem_cons_of_mem _ m)
      · exact nd.2.1 m
    intro i j t u h1 h2 ne x y hx hy
    cases i with
    | zero =>
      cases h1
      cases j with
      | zero => exact (ne rfl).elim
      | succ j => exact far h2 x y hx hy
    | succ i =>
      cases j with
      | zero =>
        cases h2
        exact fun z => far h1 y x hy hx z.symm
      | succ j => exact ih nd.2.2 (i := i) (j := j) h1 h2 (fun z => ne (by rw [z])) x y hx hy
/-- the lists of the first i fours have got one more number -/
structure Grown9 (f : List Nat → List Int) (H : Hp) (p : Addr) (ts : List FourT) (i : Nat) : Prop where
  top : H p = some (.lst (ts.map fun t => V.ref t.1))
  row : ∀ t ∈ ts, H t.1 = some (.tup [.ref t.2.1, .ref t.2.2.1])
  old : ∀ (j : Nat) (t : FourT), ts[j]? = some t → i ≤ j → H t.2.1 = some (.lst (natV t.2.2.2)) ∧ H t.2.2.1 = some (.lst ((f t.2.2.2).map V.int))
  grown : ∀ (j : Nat) (t : FourT), ts[j]? = some t → j < i → H t.2.1 = some (.lst (natV t.2.2.2 ++ [.int 9])) ∧ H t.2.2.1 = some (.lst ((f t.2.2.2).map V.int ++ [.int 9]))
theorem Grown9.next {f : List Nat → List Int} {H H0 : Hp} {p : Addr} {ts : List FourT} {i : Nat} {t : FourT} (g : Grown9 f H p ts i) (nd : (cells ts).Nodup) (sep : ∀ t ∈ ts, p ≠ t.1 ∧ p ≠ t.2.1 ∧ p ≠ t.2.2.1) (h : ts[i]? = some t) :
    Grown9 f (upd (upd H t.2.1 (.lst (natV t.2.2.2 ++ [.int 9]))) t.2.2.1 (.lst ((f t.2.2.2).map V.int ++ [.int 9]))) p ts (i + 1) := by
  have tm := List.mem_of_getElem? h
  obtain ⟨s1, s2, s3⟩ := sep t tm
  obtain ⟨o1, o2⟩ := g.old i t h (Nat.le_refl _)
  have own := cells_own nd tm
  have nt : ∀ u ∈ ts, u.1 ≠ t.2.1 ∧ u.1 ≠ t.2.2.1 := fun u hu => ⟨ne_of (g.row u hu) o1 (by intro z; cases z), ne_of (g.row u hu) o2 (by intro z; cases z)⟩
  refine ⟨by rw [upd_ne s3, upd_ne s2]; exact g.top, fun u hu => by rw [upd_ne (nt u hu).2, upd_ne (nt u hu).1]; exact g.row u hu, fun j u hj hij => ?_, fun j u hj hij => ?_⟩
  · have sp := fun x y hx hy => cells_sep nd hj h (by omega) x y hx hy
    rw [upd_ne (sp _ _ (.inl rfl) (.inr rfl)), upd_ne (sp _ _ (.inl rfl) (.inl rfl)), upd_ne (sp _ _ (.inr rfl) (.inr rfl)), upd_ne (sp _ _ (.inr rfl) (.inl rfl))]
    exact g.old j u hj (by omega)
  · by_cases e : j = i
    · subst e
      rw [h] at hj
      cases hj
      rw [upd_ne own, upd_same, upd_same]
      exact ⟨rfl, rfl⟩
    · have sp := fun x y hx hy => cells_sep nd hj h e x y hx hy
      rw [upd_ne (sp _ _ (.inl rfl) (.inr rfl)), upd_ne (sp _ _ (.inl rfl) (.inl rfl)), upd_ne (sp _ _ (.inr rfl) (.inr rfl)), upd_ne (sp _ _ (.inr rfl) (.inl rfl))]
      exact g.grown j u hj (by omega)
def spFirmRight : Sp := fun vs H Q _ => ∃ (k : Int) (c : Addr) (rs : List Addr) (kss : List (List Int)), vs = [.int k, .ref c] ∧ 2 ≤ k ∧ k ≤ 9 ∧ Tab H c rs kss ∧ Fine k kss ∧ 1 ≤ kss.length ∧ kss.length ≤ 10 ∧ ∀ H', Same H H' → Q (.bl true) H'
def spSmall : Sp := fun vs H Q _ => ∃ (g : Addr) (n : Nat), vs = [.ref g] ∧ Gen H g (n + 10000) ∧ ∀ H', But g H H' → Q (.bl true) H'
def spLaw (K : PySem.W.Frag) : Sp := fun vs H Q _ => ∃ (a : Addr) (ns : List Int), vs = [.ref a] ∧ SqL K H a (ns.map V.int) ∧ ∀ H', Q (.bl true) H'
theorem FourSame.data {kss ls : List (List Int)} (s : FourSame kss ls) : foursP ls = foursP kss := by
  unfold foursP
  rw [s.1]
  congr 1
  exact List.map_congr_left fun l hl => by
    unfold fourP
    rw [s.2 l hl]
theorem tab_fits {k : Int} {kss : List (List Int)} (f : Fine k kss) (hk : k ≤ 9) (l : kss.length ≤ 40) : (tabP kss).showable = true ∧ (tabP kss).shown.length ≤ sizeLine ∧ (tabP kss).depth ≤ 60 := (nice_tab f hk l).fits
end GL

namespace GL
open PySem PySem.Spec PyProof.Rows L2
theorem tab3 {H : Hp} {p a b c : Addr} {k : Int} {x y z : List Int} (f : Fine k [x, y, z]) (h : H p = some (.lst [.ref a, .ref b, .ref c])) (ha : H a = some (.lst (x.map V.int))) (hb : H b = some (.lst (y.map V.int))) (hc : H c = some (.lst (z.map V.int))) : Tab H p [a, b, c] [x, y, z] :=
  Tab.made f rfl h fun i r ks h1 h2 => by
    match i, h1, h2 with
    | 0, h1, h2 => cases h1; cases h2; exact ha
    | 1, h1, h2 => cases h1; cases h2; exact hb
    | 2, h1, h2 => cases h1; cases h2; exact hc
    | i + 3, h1, h2 => simp at h1
theorem tab4 {H : Hp} {p a b c d : Addr} {k : Int} {x y z u : List Int} (f : Fine k [x, y, z, u]) (h : H p = some (.lst [.ref a, .ref b, .ref c, .ref d])) (ha : H a = some (.lst (x.map V.int))) (hb : H b = some (.lst (y.map V.int))) (hc : H c = some (.lst (z.map V.int))) (hd : H d = some (.lst (u.map V.int))) : Tab H p [a, b, c, d] [x, y, z, u] :=
  Tab.made f rfl h fun i r ks h1 h2 => by
    match i, h1, h2 with
    | 0, h1, h2 => cases h1; cases h2; exact ha
    | 1, h1, h2 => cases h1; cases h2; exact hb
    | 2, h1, h2 => cases h1; cases h2; exact hc
    | 3, h1, h2 => cases h1; cases h2; exact hd
    | i + 4, h1, h2 => simp at h1
def longK (n : Nat) : List (List Int) := (List.range n).map fun i => (List.range i).map fun j => if j + 1 = i then 1 else 0
end GL

/-! Companies with the same words of threes and the same firm fours. -/
namespace GL
open PySem PySem.Spec PyProof.Rows L2
theorem combs_in (n : Nat) : ∀ r d lo, lo + d = n → ∀ l : List Nat, l.length = r → l.Pairwise (· < ·) → (∀ x ∈ l, lo ≤ x ∧ x < n) → l ∈ Cmb.combs n r d lo
  | 0, d, lo, _, l, hl, _, _ => by
    have : l = [] := List.length_eq_zero_iff.mp hl
    subst this
    cases d <;> (rw [Cmb.combs]; exact List.mem_singleton.mpr rfl)
  | r + 1, 0, lo, e, l, hl, _, b => by
    cases l with
    | nil => cases hl
    | cons x l =>
      have := b x (List.mem_cons_self ..)
      omega
  | r + 1, d + 1, lo, e, l, hl, pw, b => by
    rw [Cmb.combs, List.mem_append, List.mem_map]
    cases l with
    | nil => cases hl
    | cons x l =>
      obtain ⟨h1, h2⟩ := List.pairwise_cons.mp pw
      have bx := b x (List.mem_cons_self ..)
      by_cases c : x = lo
      · subst c
        exact .inl ⟨l, combs_in n r d (x + 1) (by omega) l (by simpa using hl) h2 (fun y hy => ⟨h1 y hy, (b y (List.mem_cons_of_mem _ hy)).2⟩), rfl⟩
      · refine .inr (combs_in n (r + 1) d (lo + 1) (by omega) (x :: l) hl pw fun y hy => ?_)
        have := b y hy
        rcases List.mem_cons.mp hy with rfl | hy
        · omega
        · have := h1 y hy
          omega
theorem choices_in {n r : Nat} {l : List Nat} (hl : l.length = r) (pw : l.Pairwise (· < ·)) (b : ∀ x ∈ l, x < n) : l ∈ Cmb.choices n r := combs_in n r n 0 (Nat.zero_add n) l hl pw fun x hx => ⟨Nat.zero_le _, b x hx⟩
/-- any lot of unlike people, in order -/
theorem sorted_in {n : Nat} {l : List Nat} (nd : l.Nodup) (b : ∀ x ∈ l, x < n) : ∃ s, s ∈ Cmb.choices n l.length ∧ s.Perm l := by
  have pm : (l.mergeSort (fun a b => decide (a ≤ b))).Perm l := List.mergeSort_perm l _
  have so : (l.mergeSort (fun a b => decide (a ≤ b))).Pairwise fun a b => decide (a ≤ b) = true := List.pairwise_mergeSort (fun a b c h1 h2 => by simp at *; omega) (fun a b => by simp; omega) l
  refine ⟨_, choices_in pm.length_eq ?_ (fun x hx => b x (pm.mem_iff.mp hx)), pm⟩
  have nd2 := pm.nodup_iff.mpr nd
  have both := so.and nd2
  exact both.imp fun ⟨h1, h2⟩ => by
    have := of_decide_eq_true h1
    omega
def wordL (x y z : Int) : List Int := if x = y ∨ x = z then [x] else if y = z then [y] else [x, y, z]
def wordK (kss : List (List Int)) (l : List Nat) : List Int := wordL (tieN kss (l.getD 0 0) (l.getD 1 0)) (tieN kss (l.getD 0 0) (l.getD 2 0)) (tieN kss (l.getD 1 0) (l.getD 2 0))
/-- two at least are x -/
def Maj (x p q r : Int) : Prop := (p = x ∧ q = x) ∨ (p = x ∧ r = x) ∨ (q = x ∧ r = x)
theorem word_maj {p q r p' q' r' : Int} (h : wordL p q r = wordL p' q' r') : (∀ x, Maj x p q r ↔ Maj x p' q' r') ∧ ((∀ x, ¬ Maj x p q r) → p = p' ∧ q = q' ∧ r = r') := by
  unfold wordL at h
  unfold Maj
  by_cases c1 : p = q ∨ p = r
  · rw [if_pos c1] at h
    by_cases c2 : p' = q' ∨ p' = r'
    · rw [if_pos c2] at h
      have e : p = p' := by simpa using h
      exact ⟨fun x => by omega, fun z => by have := z p; omega⟩
    · rw [if_neg c2] at h
      by_cases c3 : q' = r'
      · rw [if_pos c3] at h
        have e : p = q' := by simpa using h
        exact ⟨fun x => by omega, fun z => by have := z p; omega⟩
      · rw [if_neg c3] at h
        simp at h
  · rw [if_neg c1] at h
    by_cases c4 : q = r
    · rw [if_pos c4] at h
      by_cases c2 : p' = q' ∨ p' = r'
      · rw [if_pos c2] at h
        have e : q = p' := by simpa using h
        exact ⟨fun x => by omega, fun z => by have := z q; omega⟩
      · rw [if_neg c2] at h
        by_cases c3 : q' = r'
        · rw [if_pos c3] at h
          have e : q = q' := by simpa using h
          exact ⟨fun x => by omega, fun z => by have := z q; omega⟩
        · rw [if_neg c3] at h
          simp at h
    · rw [if_neg c4] at h
      by_cases c2 : p' = q' ∨ p' = r'
      · rw [if_pos c2] at h
        simp at h
      · rw [if_neg c2] at h
        by_cases c3 : q' = r'
        · rw [if_pos c3] at h
          simp at h
        · rw [if_neg c3] at h
          obtain ⟨e1, e2, e3⟩ : p = p' ∧ q = q' ∧ r = r' := by simpa using h
          subst e1 e2 e3
          exact ⟨fun x => Iff.rfl, fun _ => ⟨rfl, rfl, rfl⟩⟩
structure WF (kss ls : List (List Int)) : Prop where
  len : ls.length = kss.length
  words : ∀ l ∈ Cmb.choices kss.length 3, wordK ls l = wordK kss l
  fours : FourSame kss ls
theorem WF.refl (kss : List (List Int)) : WF kss kss := ⟨rfl, fun _ _ => rfl, rfl, fun _ _ => rfl⟩
theorem FourSame.symm {kss ls : List (List Int)} (h : FourSame kss ls) : FourSame ls kss := ⟨h.1.symm, fun l hl => (h.2 l (by rw [← h.1]; exact hl)).symm⟩
theorem WF.symm {kss ls : List (List Int)} (h : WF kss ls) : WF ls kss := ⟨h.len.symm, fun l hl => (h.words l (by rw [← h.len]; exact hl)).symm, h.fours.symm⟩
theorem WF.trans {kss ls ms : List (List Int)} (a : WF kss ls) (b : WF ls ms) : WF kss ms := ⟨b.len.trans a.len, fun l hl => (b.words l (by rw [a.len]; exact hl)).trans (a.words l hl), a.fours.trans b.fours⟩
theorem three_of {n : Nat} {l : List Nat} (h : l ∈ Cmb.choices n 3) : ∃ a b c, l = [a, b, c] ∧ a < b ∧ b < c ∧ c < n := by
  have h1 := Cmb.choices_len h
  have h2 := combs_up n 3 n 0 (Nat.zero_add n) l h
  have h3 := Cmb.choices_low h
  match l, h1 with
  | [a, b, c], _ =>
    refine ⟨a, b, c, rfl, ?_, ?_, h3 c (by simp)⟩
    all_goals simp at h2
    all_goals omega
theorem Step.words {k : Int} {kss ls : List (List Int)} (s : Step k kss ls) (f : Fine k kss) : ∀ l ∈ Cmb.choices kss.length 3, wordK ls l = wordK kss l := by
  obtain ⟨a, b, v, ab, hb, al, v0, vk, rfl⟩ := s
  intro l hl
  obtain ⟨p, q, r, rfl, pq, qr, rn⟩ := three_of hl
  show wordL (tieN _ p q) (tieN _ p r) (tieN _ q r) = wordL (tieN kss p q) (tieN kss p r) (tieN kss q r)
  rw [tie_setT f ab hb, tie_setT f ab hb, tie_setT f ab hb]
  by_cases c1 : p = a ∧ q = b
  · obtain ⟨rfl, rfl⟩ := c1
    have e := alike_at al (by omega : r < kss.length) (by omega) (by omega)
    rw [tieN_comm kss r p, tieN_comm kss r q] at e
    rw [if_pos (by omega), if_neg (by omega), if_neg (by omega), e]
    unfold wordL
    split <;> split <;> simp_all
  · by_cases c2 : p = a ∧ r = b
    · obtain ⟨rfl, rfl⟩ := c2
      have e := alike_at al (by omega : q < kss.length) (by omega) (by omega)
      rw [tieN_comm kss q p] at e
      rw [if_neg (by omega), if_pos (by omega), if_neg (by omega), e]
      unfold wordL
      simp
    · by_cases c3 : q = a ∧ r = b
      · obtain ⟨rfl, rfl⟩ := c3
        have e := alike_at al (by omega : p < kss.length) (by omega) (by omega)
        rw [if_neg (by omega), if_neg (by omega), if_pos (by omega), e]
        unfold wordL
        simp
      · rw [if_neg (by omega), if_neg (by omega), if_neg (by omega)]
theorem Step.wf {k : Int} {kss ls : List (List Int)} (s : Step k kss ls) (f : Fine k kss) : WF kss ls := ⟨s.len, s.words f, s.fours f⟩
theorem Led.wf {k : Int} {kss ls : List (List Int)} (l : Led k kss ls) (f : Fine k kss) : WF kss ls := by
  induction l with
  | refl => exact .refl _
  | step l s ih => exact ih.trans (s.wf (l.fine f))
def MP (p q r p' q' r' : Int) : Prop := (∀ x, Maj x p q r ↔ Maj x p' q' r') ∧ ((∀ x, ¬ Maj x p q r) → p = p' ∧ q = q' ∧ r = r')
theorem Maj.s12 {x p q r : Int} : Maj x p q r ↔ Maj x q p r := by
  unfold Maj
  constructor <;> (rintro (⟨a, b⟩ | ⟨a, b⟩ | ⟨a, b⟩) <;> simp [a, b])
theorem Maj.s23 {x p q r : Int} : Maj x p q r ↔ Maj x p r q := by
  unfold Maj
  constructor <;> (rintro (⟨a, b⟩ | ⟨a, b⟩ | ⟨a, b⟩) <;> simp [a, b])
theorem MP.s12 {p q r p' q' r' : Int} (h : MP p q r p' q' r') : MP q p r q' p' r' := ⟨fun x => Maj.s12.trans ((h.1 x).trans Maj.s12), fun z => have ⟨a, b, c⟩ := h.2 fun x y => z x (Maj.s12.mp y); ⟨b, a, c⟩⟩
theorem MP.s23 {p q r p' q' r' : Int} (h : MP p q r p' q' r') : MP p r q p' r' q' := ⟨fun x => Maj.s23.trans ((h.1 x).trans Maj.s23), fun z => have ⟨a, b, c⟩ := h.2 fun x y => z x (Maj.s23.mp y); ⟨a, c, b⟩⟩
def Tri (kss ls : List (List Int)) (i j m : Nat) : Prop := MP (tieN kss i j) (tieN kss i m) (tieN kss j m) (tieN ls i j) (tieN ls i m) (tieN ls j m)
theorem Tri.s12 {kss ls : List (List Int)} {i j m : Nat} (h : Tri kss ls i j m) : Tri kss ls j i m := by
  unfold Tri
  rw [tieN_comm kss j i, tieN_comm ls j i]
  exact MP.s23 h
theorem Tri.s23 {kss ls : List (List Int)} {i j m : Nat} (h : Tri kss ls i j m) : Tri kss ls i m j := by
  unfold Tri
  rw [tieN_comm kss m j, tieN_comm ls m j]
  exact MP.s12 h
/-- of any three -/
theorem WF.three {kss ls : List (List Int)} (h : WF kss ls) {i j m : Nat} (hi : i < kss.length) (hj : j < kss.length) (hm : m < kss.length) (ij : i ≠ j) (im : i ≠ m) (jm : j ≠ m) : Tri kss ls i j m := by
  obtain ⟨s, s1, s2⟩ := sorted_in (n := kss.length) (l := [i, j, m]) (by simp; omega) (by simp; omega)
  obtain ⟨a, b, c, rfl, ab, bc, cn⟩ := three_of s1
  have w : Tri kss ls a b c := word_maj (h.words _ s1).symm
  have mi : i ∈ [a, b, c] := s2.mem_iff.mpr (by simp)
  have mj : j ∈ [a, b, c] := s2.mem_iff.mpr (by simp)
  have mm : m ∈ [a, b, c] := s2.mem_iff.mpr (by simp)
  have ci : i = a ∨ i = b ∨ i = c := by simpa using mi
  have cj : j = a ∨ j = b ∨ j = c := by simpa using mj
  have cm : m = a ∨ m = b ∨ m = c := by simpa using mm
  rcases ci with rfl | rfl | rfl <;> rcases cj with rfl | rfl | rfl <;> rcases cm with rfl | rfl | rfl <;> first
    | (exfalso; omega)
    | exact w
    | exact w.s12
    | exact w.s23
    | exact w.s12.s23
    | exact w.s23.s12
    | exact w.s12.s23.s12
/-- of any four: not all pairs stand alike among them, then the ties are the same -/
theorem WF.four {kss ls : List (List Int)} (h : WF kss ls) {i j m o : Nat} (hi : i < kss.length) (hj : j < kss.length) (hm : m < kss.length) (ho : o < kss.length) (nd : [i, j, m, o].Nodup)
    (firm : ∀ x ∈ [i, j, m, o], ∀ y ∈ [i, j, m, o], x ≠ y → ∃ z ∈ [i, j, m, o], z ≠ x ∧ z ≠ y ∧ tieN kss z x ≠ tieN kss z y) : ∀ x ∈ [i, j, m, o], ∀ y ∈ [i, j, m, o], x ≠ y → tieN kss x y = tieN ls x y := by
  obtain ⟨s, s1, s2⟩ := sorted_in (n := kss.length) (l := [i, j, m, o]) nd (by simp; omega)
  obtain ⟨a, b, c, d, rfl, ab, bc, cd, dn⟩ := four_of s1
  have mem : ∀ {x}, x ∈ [i, j, m, o] ↔ x ∈ [a, b, c, d] := fun {x} => s2.mem_iff.symm
  have fm : firmL (sixL kss [a, b, c, d]) = true := by
    show firmB (tieN kss a b) (tieN kss a c) (tieN kss a d) (tieN kss b c) (tieN kss b d) (tieN kss c d) = true
    have two : ∀ x y u v, x ∈ [a, b, c, d] → y ∈ [a, b, c, d] → x ≠ y → (∀ z ∈ [a, b, c, d], z ≠ x → z ≠ y → z = u ∨ z = v) → ¬ (tieN kss u x = tieN kss u y ∧ tieN kss v x = tieN kss v y) := fun x y u v hx hy ne only both => by
      obtain ⟨z, hz, zx, zy, q⟩ := firm x (mem.mpr hx) y (mem.mpr hy) ne
      rcases only z (mem.mp hz) zx zy with rfl | rfl
      · exact q both.1
      · exact q both.2
    have t1 := two a b c d (by simp) (by simp) (by omega) (by simp)
    have t2 := two a c b d (by simp) (by simp) (by omega) (by simp)
    have t3 := two a d b c (by simp) (by simp) (by omega) (by simp)
    have t4 := two b c a d (by simp) (by simp) (by omega) (by simp)
    have t5 := two b d a c (by simp) (by simp) (by omega) (by simp)
    have t6 := two c d a b (by simp) (by simp) (by omega) (by simp)
    rw [tieN_comm kss c a, tieN_comm kss c b, tieN_comm kss d a, tieN_comm kss d b] at t1
    rw [tieN_comm kss b a, tieN_comm kss d a, tieN_comm kss d c] at t2
    rw [tieN_comm kss b a, tieN_comm kss c a] at t3
    rw [tieN_comm kss d b, tieN_comm kss d c] at t4
    rw [tieN_comm kss c b] at t5
    unfold firmB
    rw [Bool.not_eq_true', Bool.eq_false_iff]
    intro q
    simp only [Bool.or_eq_true, Bool.and_eq_true, beq_iff_eq] at q
    rcases q with q | q | q | q | q | q
    · exact t1 q
    · exact t2 q
    · exact t3 q
    · exact t4 q
    · exact t5 q
    · exact t6 q
  have e := h.fours.2 _ (List.mem_filter.mpr ⟨s1, fm⟩)
  have e' : [tieN ls a b, tieN ls a c, tieN ls a d, tieN ls b c, tieN ls b d, tieN ls c d] = [tieN kss a b, tieN kss a c, tieN kss a d, tieN kss b c, tieN kss b d, tieN kss c d] := e
  obtain ⟨g1, g2, g3, g4, g5, g6⟩ : tieN ls a b = tieN kss a b ∧ tieN ls a c = tieN kss a c ∧ tieN ls a d = tieN kss a d ∧ tieN ls b c = tieN kss b c ∧ tieN ls b d = tieN kss b d ∧ tieN ls c d = tieN kss c d := by simpa using e'
  intro x hx y hy ne
  have cx : x = a ∨ x = b ∨ x = c ∨ x = d := by simpa using mem.mp hx
  have cy : y = a ∨ y = b ∨ y = c ∨ y = d := by simpa using mem.mp hy
  rcases cx with rfl | rfl | rfl | rfl <;> rcases cy with rfl | rfl | rfl | rfl <;> first
    | exact (ne rfl).elim
    | (first | exact g1.symm | exact g2.symm | exact g3.symm | exact g4.symm | exact g5.symm | exact g6.symm)
    | (rw [tieN_comm kss, tieN_comm ls]; first | exact g1.symm | exact g2.symm | exact g3.symm | exact g4.symm | exact g5.symm | exact g6.symm)
theorem not_alike {kss : List (List Int)} {a b : Nat} (h : alikeB kss a b = false) : ∃ m, m < kss.length ∧ m ≠ a ∧ m ≠ b ∧ tieN kss m a ≠ tieN kss m b := by
  apply Classical.byContradiction
  intro z
  have : alikeB kss a b = true := alike_of fun m hm ma mb => Classical.byContradiction fun q => z ⟨m, hm, ma, mb, q⟩
  rw [h] at this
  cases this
theorem Maj.one {x p q r : Int} (m : Maj x p q r) (d : q ≠ r) : x = p := by
  rcases m with m | m | m
  · exact m.1.symm
  · exact m.1.symm
  · exact (d (m.1.trans m.2.symm)).elim
theorem Maj.two {x p q r : Int} (m : Maj x p q r) (d : x ≠ p) : q = x ∧ r = x := by
  rcases m with m | m | m
  · exact (d m.1.symm).elim
  · exact (d m.1.symm).elim
  · exact m
theorem Maj.or {x p q r : Int} (m : Maj x p q r) : q = x ∨ r = x := by
  rcases m with m | m | m
  · exact .inl m.2
  · exact .inr m.2
  · exact .inl m.1
theorem Maj.same {x y p q r : Int} (m : Maj x p q r) (n : Maj y p q r) : x = y := by
  rcases m with m | m | m <;> rcases n with n | n | n <;> omega
/-- no pair of four stands alike among them -/
theorem no_pair (ts : List (List Int)) (i j k l : Nat) (nd : [i, j, k, l].Nodup) (c1 : tieN ts k i ≠ tieN ts k j ∨ tieN ts l i ≠ tieN ts l j) (c2 : tieN ts j i ≠ tieN ts j k ∨ tieN ts l i ≠ tieN ts l k) (c3 : tieN ts j i ≠ tieN ts j l ∨ tieN ts k i ≠ tieN ts k l)
    (c4 : tieN ts i j ≠ tieN ts i k ∨ tieN ts l j ≠ tieN ts l k) (c5 : tieN ts i j ≠ tieN ts i l ∨ tieN ts k j ≠ tieN ts k l) (c6 : tieN ts i k ≠ tieN ts i l ∨ tieN ts j k ≠ tieN ts j l) :
    ∀ x ∈ [i, j, k, l], ∀ y ∈ [i, j, k, l], x ≠ y → ∃ z ∈ [i, j, k, l], z ≠ x ∧ z ≠ y ∧ tieN ts z x ≠ tieN ts z y := by
  have nd' : i ≠ j ∧ i ≠ k ∧ i ≠ l ∧ j ≠ k ∧ j ≠ l ∧ k ≠ l := by
    simp at nd
    exact ⟨nd.1.1, nd.1.2.1, nd.1.2.2, nd.2.1.1, nd.2.1.2, nd.2.2⟩
  obtain ⟨d1, d2, d3, d4, d5, d6⟩ := nd'
  have mk : ∀ u v x y, u ∈ [i, j, k, l] → v ∈ [i, j, k, l] → u ≠ x → u ≠ y → v ≠ x → v ≠ y → (tieN ts u x ≠ tieN ts u y ∨ tieN ts v x ≠ tieN ts v y) → ∃ z ∈ [i, j, k, l], z ≠ x ∧ z ≠ y ∧ tieN ts z x ≠ tieN ts z y := fun u v x y hu hv a1 a2 a3 a4 c => by
    rcases c with c | c
    · exact ⟨u, hu, a1, a2, c⟩
    · exact ⟨v, hv, a3, a4, c⟩
  have flip : ∀ {u v x y : Nat}, (tieN ts u x ≠ tieN ts u y ∨ tieN ts v x ≠ tieN ts v y) → (tieN ts u y ≠ tieN ts u x ∨ tieN ts v y ≠ tieN ts v x) := fun c => c.imp Ne.symm Ne.symm
  have mi : i ∈ [i, j, k, l] := by simp
  have mj : j ∈ [i, j, k, l] := by simp
  have mk' : k ∈ [i, j, k, l] := by simp
  have ml : l ∈ [i, j, k, l] := by simp
  intro x hx y hy ne
  have cx : x = i ∨ x = j ∨ x = k ∨ x = l := by simpa using hx
  have cy : y = i ∨ y = j ∨ y = k ∨ y = l := by simpa using hy
  rcases cx with rfl | rfl | rfl | rfl
  · rcases cy with e | e | e | e
    · exact (ne e.symm).elim
    · rw [e]; exact mk k l _ _ mk' ml d2.symm d4.symm d3.symm d5.symm c1
    · rw [e]; exact mk j l _ _ mj ml d1.symm d4 d3.symm d6.symm c2
    · rw [e]; exact mk j k _ _ mj mk' d1.symm d5 d2.symm d6 c3
  · rcases cy with e | e | e | e
    · rw [e]; exact mk k l _ _ mk' ml d4.symm d2.symm d5.symm d3.symm (flip c1)
    · exact (ne e.symm).elim
    · rw [e]; exact mk i l _ _ mi ml d1 d2 d5.symm d6.symm c4
    · rw [e]; exact mk i k _ _ mi mk' d1 d3 d4.symm d6 c5
  · rcases cy with e | e | e | e
    · rw [e]; exact mk j l _ _ mj ml d4 d1.symm d6.symm d3.symm (flip c2)
    · rw [e]; exact mk i l _ _ mi ml d2 d1 d6.symm d5.symm (flip c4)
    · exact (ne e.symm).elim
    · rw [e]; exact mk i j _ _ mi mj d2 d3 d4 d5 c6
  · rcases cy with e | e | e | e
    · rw [e]; exact mk j k _ _ mj mk' d5 d1.symm d6 d2.symm (flip c3)
    · rw [e]; exact mk i k _ _ mi mk' d3 d1 d6 d4.symm (flip c5)
    · rw [e]; exact mk i j _ _ mi mj d3 d2 d5 d4 (flip c6)
    · exact (ne e.symm).elim
/-- who differ stand alike in one of the two -/
theorem WF.lone {kss ls : List (List Int)} (h : WF kss ls) {a b : Nat} (ha : a < kss.length) (hb : b < kss.length) (ab : a ≠ b) (df : tieN kss a b ≠ tieN ls a b) : alikeB kss a b = true ∨ alikeB ls a b = true := by
  apply Classical.byContradiction
  intro no
  have n1 : alikeB kss a b = false := by
    cases e : alikeB kss a b with
    | false => rfl
    | true => exact (no (.inl e)).elim
  have n2 : alikeB ls a b = false := by
    cases e : alikeB ls a b with
    | false => rfl
    | true => exact (no (.inr e)).elim
  obtain ⟨m, hm, ma, mb, dm⟩ := not_alike n1
  obtain ⟨o, ho, oa, ob, dn⟩ := not_alike n2
  rw [h.len] at ho
  have t1 := h.three ha hb hm ab (Ne.symm ma) (Ne.symm mb)
  have t2 := h.three ha hb ho ab (Ne.symm oa) (Ne.symm ob)
  rw [tieN_comm kss m a, tieN_comm kss m b] at dm
  rw [tieN_comm ls o a, tieN_comm ls o b] at dn
  have m1 : ∃ x, Maj x (tieN kss a b) (tieN kss a m) (tieN kss b m) := Classical.byContradiction fun z => df (t1.2 fun x y => z ⟨x, y⟩).1
  have o1 : ∃ x, Maj x (tieN ls a b) (tieN ls a o) (tieN ls b o) := by
    apply Classical.byContradiction
    intro z
    exact df (t2.2 fun x y => z ⟨x, (t2.1 x).mp y⟩).1
  obtain ⟨x, mx⟩ := m1
  obtain ⟨y, oy⟩ := o1
  have ex := mx.one dm
  have ey := oy.one dn
  have xy : x ≠ y := by rw [ex, ey]; exact df
  have am' := ((t1.1 x).mp mx).two (by rw [← ey]; exact xy)
  have ao := ((t2.1 y).mpr oy).two (by rw [← ex]; exact xy.symm)
  have cm := mx.or
  have co := oy.or
  have mo : m ≠ o := fun z => by
    subst z
    exact dn (am'.1.trans am'.2.symm)
  have nd : [a, b, m, o].Nodup := by
    simp
    exact ⟨⟨ab, Ne.symm ma, Ne.symm oa⟩, ⟨Ne.symm mb, Ne.symm ob⟩, mo⟩
  have cc : ∀ (ts : List (List Int)) (i j : Nat), tieN ts i j = tieN ts j i := tieN_comm
  have k1 : tieN kss m o = y := by
    apply Classical.byContradiction
    intro q
    refine df (h.four ha hb hm ho nd (no_pair kss a b m o nd ?_ ?_ ?_ ?_ ?_ ?_) a (by simp) b (by simp) ab)
    · rw [cc kss m a, cc kss m b]; exact .inl dm
    · rw [cc kss o a, cc kss o m, ao.1]; exact .inr (Ne.symm q)
    · rw [cc kss b a, ← ex, ao.2]; exact .inl xy
    · rw [cc kss o b, cc kss o m, ao.2]; exact .inr (Ne.symm q)
    · rw [← ex, ao.1]; exact .inl xy
    · rw [ao.1, ao.2]
      rcases cm with c | c
      · rw [c]; exact .inl xy
      · rw [c]; exact .inr xy
  have k2 : tieN ls m o = x := by
    apply Classical.byContradiction
    intro q
    refine df ((h.symm.four (by rw [h.len]; exact ha) (by rw [h.len]; exact hb) (by rw [h.len]; exact hm) (by rw [h.len]; exact ho) nd (no_pair ls a b m o nd ?_ ?_ ?_ ?_ ?_ ?_) a (by simp) b (by simp) ab).symm)
    · rw [cc ls o a, cc ls o b]; exact .inr dn
    · rw [cc ls b a, ← ey, am'.2]; exact .inl xy.symm
    · rw [cc ls m a, am'.1]; exact .inr (Ne.symm q)
    · rw [← ey, am'.1]; exact .inl xy.symm
    · rw [cc ls m b, am'.2]; exact .inr (Ne.symm q)
    · rw [am'.1, am'.2]
      rcases co with c | c
      · rw [c]; exact .inl xy
      · rw [c]; exact .inr xy
  have t3 := h.three ha hm ho (Ne.symm ma) (Ne.symm oa) mo
  have m1 : Maj y (tieN kss a m) (tieN kss a o) (tieN kss m o) := .inr (.inr ⟨ao.1, k1⟩)
  have m2 : Maj x (tieN ls a m) (tieN ls a o) (tieN ls m o) := .inr (.inl ⟨am'.1, k2⟩)
  exact xy (m2.same ((t3.1 y).mp m1))
end GL

/-! Data of numbers, lists and tuples alone. -/
namespace GL
open PySem PySem.Spec PyProof.Rows L2
mutual
def plainD : PyData → Bool
  | .none => true
  | .bool _ => false
  | .int _ => true
  | .str _ => false
  | .list xs => plainA xs
  | .tuple xs => plainA xs
  | .dict _ => false
def plainA : List PyData → Bool
  | [] => true
  | x :: xs => plainD x && plainA xs
end
theorem plainA_of : ∀ {xs : List PyData}, (∀ x ∈ xs, plainD x = true) → plainA xs = true
  | [], _ => by simp only [plainA]
  | x :: xs, h => by
    simp only [plainA]
    rw [h x (List.mem_cons_self ..), plainA_of fun y hy => h y (List.mem_cons_of_mem _ hy)]
    rfl
mutual
theorem plain_lay : ∀ d : PyData, plainD d = true → PyData.canLay0 d = true
  | .none, _ => by simp only [PyData.canLay0]
  | .bool _, h => by simp [plainD] at h
  | .int _, _ => by simp only [PyData.canLay0]
  | .str _, h => by simp [plainD] at h
  | .list xs, h => by
    simp only [plainD] at h
    simp only [PyData.canLay0]
    exact plain_layA xs h
  | .tuple xs, h => by
    simp only [plainD] at h
    simp only [PyData.canLay0]
    exact plain_layA xs h
  | .dict _, h => by simp [plainD] at h
theorem plain_layA : ∀ ds : List PyData, plainA ds = true → PyData.canLayAll0 ds = true
  | [], _ => by simp only [PyData.canLayAll0]
  | d :: ds, h => by
    simp only [plainA, Bool.and_eq_true] at h
    simp only [PyData.canLayAll0]
    rw [plain_lay d h.1, plain_layA ds h.2]
    rfl
end
mutual
theorem plain_eqv : ∀ d e : PyData, plainD d = true → plainD e = true → (PyData.eqv d e = true ↔ d = e)
  | .none, e, _, h => by cases e <;> simp_all [PyData.eqv, plainD]
  | .bool _, _, h, _ => by simp [plainD] at h
  | .int i, e, _, h => by cases e <;> simp_all [PyData.eqv, plainD]
  | .str _, _, h, _ => by simp [plainD] at h
  | .list xs, e, h, k => by
    cases e with
    | list ys =>
      simp only [plainD] at h k
      simp only [PyData.eqv]
      rw [plain_eqvA xs ys h k]
      constructor
      · intro z; rw [z]
      · intro z; injection z
    | none => simp [PyData.eqv]
    | bool _ => simp [plainD] at k
    | int _ => simp [PyData.eqv]
    | str _ => simp [plainD] at k
    | tuple _ => simp [PyData.eqv]
    | dict _ => simp [plainD] at k
  | .tuple xs, e, h, k => by
    cases e with
    | tuple ys =>
      simp only [plainD] at h k
      simp only [PyData.eqv]
      rw [plain_eqvA xs ys h k]
      constructor
      · intro z; rw [z]
      · intro z; injection z
    | none => simp [PyData.eqv]
    | bool _ => simp [plainD] at k
    | int _ => simp [PyData.eqv]
    | str _ => simp [plainD] at k
    | list _ => simp [PyData.eqv]
    | dict _ => simp [plainD] at k
  | .dict _, _, h, _ => by simp [plainD] at h
theorem plain_eqvA : ∀ ds es : List PyData, plainA ds = true → plainA es = true → (PyData.eqvAll ds es = true ↔ ds = es)
  | [], [], _, _ => by simp [PyData.eqvAll]
  | [], _ :: _, _, _ => by simp [PyData.eqvAll]
  | _ :: _, [], _, _ => by simp [PyData.eqvAll]
  | d :: ds, e :: es, h, k => by
    simp only [plainA, Bool.and_eq_true] at h k
    simp only [PyData.eqvAll, Bool.and_eq_true]
    rw [plain_eqv d e h.1 k.1, plain_eqvA ds es h.2 k.2]
    constructor
    · rintro ⟨rfl, rfl⟩; rfl
    · intro z; cases z; exact ⟨rfl, rfl⟩
end
theorem plain_shaped {d : PyData} (h : plainD d = true) (n : d.depth ≤ 64) : SeqAt.shaped d = true := by
  unfold SeqAt.shaped
  rw [plain_lay d h, decide_eq_true n]
  rfl
mutual
theorem Dt.toDp {K : PySem.W.Frag} {H : Hp} : ∀ (d : PyData) (v : V), plainD d = true → Dt K H v d → Dp K H v d
  | .none, _, _, h => by cases h; exact .non
  | .bool _, _, p, _ => by simp [plainD] at p
  | .int i, _, _, h => by cases h; exact .int i
  | .str _, _, p, _ => by simp [plainD] at p
  | .list ds, _, p, h => by
    simp only [plainD] at p
    cases h with
    | lst e a => exact .lst (SqL.of e) (Dts.toDp ds _ p a)
  | .tuple ds, _, p, h => by
    simp only [plainD] at p
    cases h with
    | tup e a => exact .tup (SqT.of e) (Dts.toDp ds _ p a)
  | .dict _, _, p, _ => by simp [plainD] at p
theorem Dts.toDp {K : PySem.W.Frag} {H : Hp} : ∀ (ds : List PyData) (vs : List V), plainA ds = true → Dts K H vs ds → DpAll K H vs ds
  | [], _, _, h => by cases h; exact .nil
  | d :: ds, _, p, h => by
    simp only [plainA, Bool.and_eq_true] at p
    cases h with
    | cons a b => exact .cons (Dt.toDp d _ p.1 a) (Dts.toDp ds _ p.2 b)
end
theorem plain_row (ns : List Int) : plainD (rowP ns) = true := by
  unfold rowP
  simp only [plainD]
  exact plainA_of fun x hx => by
    obtain ⟨n, _, rfl⟩ := List.mem_map.mp hx
    simp only [plainD]
def tupP (ns : List Int) : PyData := .tuple (ns.map PyData.int)
theorem plain_tup (ns : List Int) : plainD (tupP ns) = true := by
  unfold tupP
  simp only [plainD]
  exact plainA_of fun x hx => by
    obtain ⟨n, _, rfl⟩ := List.mem_map.mp hx
    simp only [plainD]
theorem map_inj {α β : Type} {f : α → β} (h : ∀ x y, f x = f y → x = y) : ∀ {xs ys : List α}, xs.map f = ys.map f → xs = ys
  | [], [], _ => rfl
  | [], y :: ys, e => by cases e
  | x :: xs, [], e => by cases e
  | x :: xs, y :: ys, e => by
    rw [List.map_cons, List.map_cons, List.cons.injEq] at e
    rw [h x y e.1, map_inj h e.2]
theorem row_inj {x y : List Int} (h : rowP x = rowP y) : x = y := by
  unfold rowP at h
  injection h with h
  exact map_inj (fun a b z => by injection z) h
theorem tup_inj {x y : List Int} (h : tupP x = tupP y) : x = y := by
  unfold tupP at h
  injection h with h
  exact map_inj (fun a b z => by injection z) h
theorem nat_inj {x y : List Nat} (h : rowP (nums x) = rowP (nums y)) : x = y := nums_inj (row_inj h)
end GL

namespace GL
open PySem PySem.Spec PyProof.Rows L2
def spWord : Sp := fun vs H Q _ => ∃ (m T : Addr) (ps : List Addr) (kss : List (List Int)) (a b c : Nat), vs = [.ref m, .ref T] ∧ Mat H m ps kss.length (tieV kss) ∧ H T = some (.tup (Cmb.natT [a, b, c])) ∧ a < b ∧ b < c ∧ c < kss.length ∧
  ∀ (p : Addr) (H' : Hp), Same H H' → H p = none → H' p = some (.tup ((wordK kss [a, b, c]).map V.int)) → Q (.ref p) H'
def spWordsIn : Sp := fun vs H Q _ => ∃ (m : Addr) (ps : List Addr) (kss : List (List Int)), vs = [.ref m] ∧ Mat H m ps kss.length (tieV kss) ∧ kss.length ≤ 40 ∧
  ∀ (p : Addr) (rs : List Addr) (H' : Hp), Same H H' → H p = none → Objs H H' p rs (Cmb.choices kss.length 3).length (fun i => .tup ((wordK kss ((Cmb.choices kss.length 3).getD i [])).map V.int)) → Q (.ref p) H'
def wordsL (kss : List (List Int)) : List (List Int) := (Cmb.choices kss.length 3).map (wordK kss)
def foursL (kss : List (List Int)) : List (List Nat × List Int) := (firmK kss).map fun l => (l, sixL kss l)
def sameB (kss ls : List (List Int)) : Bool := decide (wordsL kss = wordsL ls) && decide (foursL kss = foursL ls)
def wordsP (kss : List (List Int)) : PyData := .list ((wordsL kss).map tupP)
theorem WF.same {kss ls : List (List Int)} (h : WF kss ls) : sameB kss ls = true := by
  unfold sameB
  have e1 : wordsL kss = wordsL ls := by
    unfold wordsL
    rw [h.len]
    exact List.map_congr_left fun l hl => (h.words l hl).symm
  have e2 : foursL kss = foursL ls := by
    unfold foursL
    rw [h.fours.1]
    exact List.map_congr_left fun l hl => by rw [h.fours.2 l hl]
  rw [decide_eq_true e1, decide_eq_true e2]
  rfl
theorem plain_words (kss : List (List Int)) : plainD (wordsP kss) = true := by
  unfold wordsP
  simp only [plainD]
  exact plainA_of fun x hx => by
    obtain ⟨n, _, rfl⟩ := List.mem_map.mp hx
    exact plain_tup n
theorem depth_tupP (ns : List Int) : (tupP ns).depth ≤ 1 := by
  unfold tupP
  simp only [PyData.depth]
  have := PySem.W.depth_ints ns
  omega
theorem shaped_words (kss : List (List Int)) : SeqAt.shaped (wordsP kss) = true := plain_shaped (plain_words kss) (by
  unfold wordsP
  simp only [PyData.depth]
  have := depthAll_of (n := 1) (ds := (wordsL kss).map tupP) fun e he => by
    obtain ⟨x, _, rfl⟩ := List.mem_map.mp he
    exact depth_tupP x
  omega)
theorem eqv_words (kss ls : List (List Int)) : PyData.eqv (wordsP kss) (wordsP ls) = decide (wordsL kss = wordsL ls) := by
  rw [Bool.eq_iff_iff, plain_eqv _ _ (plain_words kss) (plain_words ls), decide_eq_true_eq]
  unfold wordsP
  constructor
  · intro h
    injection h with h
    exact map_inj (fun a b => tup_inj) h
  · intro h
    rw [h]
theorem plain_fours (kss : List (List Int)) : plainD (foursP kss) = true := by
  unfold foursP
  simp only [plainD]
  exact plainA_of fun x hx => by
    obtain ⟨l, _, rfl⟩ := List.mem_map.mp hx
    unfold fourP
    simp only [plainD, plainA]
    rw [plain_row, plain_row]
    rfl
theorem shaped_fours (kss : List (List Int)) : SeqAt.shaped (foursP kss) = true := plain_shaped (plain_fours kss) (by
  unfold foursP
  simp only [PyData.depth]
  have := depthAll_of (n := 2) (ds := (firmK kss).map (fourP kss)) fun e he => by
    obtain ⟨l, _, rfl⟩ := List.mem_map.mp he
    unfold fourP
    simp only [PyData.depth, PyData.depthAll]
    have := depth_row (nums l)
    have := depth_row (sixL kss l)
    omega
  omega)
theorem eqv_fours (kss ls : List (List Int)) : PyData.eqv (foursP kss) (foursP ls) = decide (foursL kss = foursL ls) := by
  rw [Bool.eq_iff_iff, plain_eqv _ _ (plain_fours kss) (plain_fours ls), decide_eq_true_eq]
  have e : ∀ kss : List (List Int), foursP kss = .list ((foursL kss).map fun x => .tuple [rowP (nums x.1), rowP x.2]) := fun kss => by
    unfold foursP foursL
    rw [List.map_map]
    rfl
  rw [e, e]
  constructor
  · intro h
    injection h with h
    refine map_inj (fun a b z => ?_) h
    injection z with z
    rw [List.cons.injEq, List.cons.injEq] at z
    exact Prod.ext (nat_inj z.1) (row_inj z.2.1)
  · intro h
    rw [h]
theorem Objs.words {K : PySem.W.Frag} {H0 H : Hp} {p : Addr} {rs : List Addr} {kss : List (List Int)} (R : Objs H0 H p rs (Cmb.choices kss.length 3).length (fun i => .tup ((wordK kss ((Cmb.choices kss.length 3).getD i [])).map V.int))) : Dt K H (.ref p) (wordsP kss) := by
  refine .lst R.top ?_
  have g : ∀ (n : Nat) (rs : List Addr) (L : List (List Nat)), rs.length = L.length → (∀ (i : Nat) (r : Addr), rs[i]? = some r → H r = some (.tup ((wordK kss (L.getD i [])).map V.int))) → Dts K H (rs.map V.ref) ((L.map (wordK kss)).map tupP) := fun n rs => by
    induction rs with
    | nil =>
      intro L l _
      cases L with
      | nil => exact .nil
      | cons _ _ => cases l
    | cons r rs ih =>
      intro L l h
      cases L with
      | nil => cases l
      | cons x L => exact .cons (.tup (h 0 r rfl) (dts_ints _)) (ih L (by simpa using l) fun i r' hr => h (i + 1) r' hr)
  exact g 0 rs _ R.len R.row
def spSame : Sp := fun vs H Q _ => ∃ (k : Int) (c d : Addr) (rs ps : List Addr) (kss lss : List (List Int)), vs = [.int k, .ref c, .ref d] ∧ 2 ≤ k ∧ k ≤ 9 ∧ Tab H c rs kss ∧ Tab H d ps lss ∧ Fine k kss ∧ Fine k lss ∧ 1 ≤ kss.length ∧ kss.length ≤ 14 ∧ lss.length = kss.length ∧ ∀ H', Same H H' → Q (.bl (sameB kss lss)) H'
def unK (kss ls : List (List Int)) : List (Nat × Nat) := (cplTo kss.length kss.length).filter fun c => !decide (tieN kss c.2 c.1 = tieN ls c.2 c.1)
def loneK (kss ls : List (List Int)) : Option (Nat × Nat) := (unK kss ls).find? fun c => !alikeB kss c.1 c.2 && !alikeB ls c.1 c.2
def optP : Option (Nat × Nat) → PyData
  | none => .none
  | some c => cT c
def spLone : Sp := fun vs H Q _ => ∃ (k : Int) (c d : Addr) (rs ps : List Addr) (kss lss : List (List Int)), vs = [.int k, .ref c, .ref d] ∧ 2 ≤ k ∧ k ≤ 9 ∧ Tab H c rs kss ∧ Tab H d ps lss ∧ Fine k kss ∧ Fine k lss ∧ 1 ≤ kss.length ∧ kss.length ≤ 40 ∧ lss.length = kss.length ∧
  ∀ v H', Same H H' → (∀ K : PySem.W.Frag, Dt K H' v (optP (loneK kss lss))) → Q v H'
theorem find_at {α : Type} {p : α → Bool} : ∀ {l : List α} {i : Nat} {c : α}, (∀ (j : Nat) (x : α), j < i → l[j]? = some x → p x = false) → l[i]? = some c → p c = true → l.find? p = some c
  | [], i, c, _, h, _ => by simp at h
  | a :: l, 0, c, _, h, pc => by
    cases h
    rw [List.find?_cons, pc]
  | a :: l, i + 1, c, h1, h, pc => by
    rw [List.find?_cons, h1 0 a (Nat.succ_pos i) rfl]
    exact find_at (l := l) (i := i) (fun j x hj hx => h1 (j + 1) x (by omega) hx) h pc
theorem lone_symm {kss ls : List (List Int)} (e : ls.length = kss.length) : loneK ls kss = loneK kss ls := by
  unfold loneK unK
  rw [e]
  have e1 : (fun c : Nat × Nat => !decide (tieN ls c.2 c.1 = tieN kss c.2 c.1)) = fun c => !decide (tieN kss c.2 c.1 = tieN ls c.2 c.1) := by
    funext c
    congr 1
    exact decide_eq_decide.mpr ⟨Eq.symm, Eq.symm⟩
  have e2 : (fun c : Nat × Nat => !alikeB ls c.1 c.2 && !alikeB kss c.1 c.2) = fun c => !alikeB kss c.1 c.2 && !alikeB ls c.1 c.2 := by
    funext c
    exact Bool.and_comm _ _
  rw [e1, e2]
theorem WF.none {kss ls : List (List Int)} (h : WF kss ls) : loneK kss ls = none := by
  unfold loneK
  rw [List.find?_eq_none]
  intro c hc
  obtain ⟨h1, h2⟩ := List.mem_filter.mp hc
  obtain ⟨w1, w2, w3⟩ := (cpl_mem _ _ c.1 c.2).mp h1
  have df : tieN kss c.1 c.2 ≠ tieN ls c.1 c.2 := by
    rw [tieN_comm kss, tieN_comm ls]
    simpa using h2
  rcases h.lone w1 w3 (by omega) df with e | e
  · rw [e]; simp
  · rw [e]; simp
def spDue : Sp := fun vs H Q _ => ∃ (k : Int) (c d : Addr) (rs ps : List Addr) (kss lss : List (List Int)), vs = [.ref c, .ref d] ∧ Tab H c rs kss ∧ Tab H d ps lss ∧ Fine k kss ∧ Fine k lss ∧ kss.length ≤ 40 ∧ lss.length = kss.length ∧
  ∀ v H', Same H H' → (∀ K : PySem.W.Frag, Dt K H' v (optP (loneK kss lss))) → Q v H'
theorem lone_find (kss ls : List (List Int)) : loneK kss ls = (cplTo kss.length kss.length).find? fun c => !decide (tieN kss c.2 c.1 = tieN ls c.2 c.1) && (!alikeB kss c.1 c.2 && !alikeB ls c.1 c.2) := by
  unfold loneK unK
  rw [List.find?_filter]
  congr 1
  funext c
  simp only [Bool.decide_and, Bool.decide_eq_true]
def spBent : Sp := fun vs H Q _ => ∃ (g : Addr) (k : Int) (c : Addr) (n : Nat) (rs : List Addr) (kss : List (List Int)), vs = [.ref g, .int k, .ref c] ∧ 2 ≤ k ∧ k ≤ 9 ∧ Gen H g (n + 50) ∧ Tab H c rs kss ∧ Fine k kss ∧ kss.length ≤ 40 ∧ c ≠ g ∧ g ∉ rs ∧
  ∀ (p : Addr) (ps : List Addr) (ls : List (List Int)) (H' : Hp), But g H H' → Gen H' g n → Tab H' p ps ls → Fine k ls → ls.length = kss.length → H p = none → (∀ r ∈ ps, H r = none) → Q (.ref p) H'
end GL

namespace GL
open PySem PySem.Spec PyProof.Rows L2
theorem Tab.upd {H : Hp} {c r : Addr} {rs : List Addr} {kss : List (List Int)} {o : HO} (t : Tab H c rs kss) (cr : c ≠ r) (nr : r ∉ rs) : Tab (L2.upd H r o) c rs kss :=
  ⟨by rw [upd_ne cr]; exact t.top, t.len, fun i q ks a b => by rw [upd_ne (fun z => nr (by rw [← z]; exact List.mem_of_getElem? a))]; exact t.row i q ks a b, t.nd⟩
theorem cpl_lt (n : Nat) (h : 1 ≤ n) : ∀ m, m ≤ n → (cplTo n m).length + m ≤ m * n
  | 0, _ => by
    show 0 + 0 ≤ _
    omega
  | m + 1, hm => by
    show (cplTo n m ++ (List.range (n - (m + 1))).map fun j => (m, m + 1 + j)).length + (m + 1) ≤ _
    rw [List.length_append, List.length_map, List.length_range, Nat.succ_mul]
    have := cpl_lt n h m (by omega)
    omega
theorem cpl_nodup (n : Nat) : ∀ m, (cplTo n m).Nodup
  | 0 => List.nodup_nil
  | m + 1 => by
    show (cplTo n m ++ (List.range (n - (m + 1))).map fun j => (m, m + 1 + j)).Nodup
    rw [List.nodup_append]
    refine ⟨cpl_nodup n m, ?_, fun a ha b hb z => ?_⟩
    · rw [List.Nodup, List.pairwise_map]
      exact List.nodup_range.imp fun h z => h (by injection z with _ z; omega)
    · subst z
      obtain ⟨j, _, rfl⟩ := List.mem_map.mp hb
      have := (cpl_mem n m m (m + 1 + j)).mp ha
      omega
theorem drop_one {α : Type} [BEq α] [LawfulBEq α] {c0 : α} : ∀ {l : List α}, l.Nodup → c0 ∈ l → (l.filter fun c => c != c0).length + 1 = l.length
  | [], _, h => by cases h
  | a :: l, nd, h => by
    obtain ⟨h1, h2⟩ := List.nodup_cons.mp nd
    by_cases e : a = c0
    · subst e
      have all : l.filter (fun c => c != a) = l := List.filter_eq_self.mpr fun x hx => by
        have : x ≠ a := fun z => h1 (by rw [← z]; exact hx)
        simp [this]
      rw [List.filter_cons, if_neg (by simp), all]
      rfl
    · have hm : c0 ∈ l := by
        rcases List.mem_cons.mp h with h | h
        · exact (e h.symm).elim
        · exact h
      rw [List.filter_cons, if_pos (by simp [e]), List.length_cons, List.length_cons, drop_one h2 hm]
theorem un_less {kss ls ks' ls' : List (List Int)} {a b : Nat} (l1 : ks'.length = kss.length) (m : (a, b) ∈ unK kss ls)
    (hg : ∀ x y, x < y → y < kss.length → decide (tieN ks' y x = tieN ls' y x) = (decide (tieN kss y x = tieN ls y x) || decide ((x, y) = (a, b)))) : (unK ks' ls').length + 1 = (unK kss ls).length := by
  have e : unK ks' ls' = (unK kss ls).filter fun c => c != (a, b) := by
    unfold unK
    rw [l1, List.filter_filter]
    refine List.filter_congr fun c hc => ?_
    obtain ⟨w1, w2, w3⟩ := (cpl_mem _ _ c.1 c.2).mp hc
    rw [hg c.1 c.2 w2 w3, Bool.not_or, Bool.and_comm]
    congr 1
    rw [bne]
    congr 1
    rw [Bool.eq_iff_iff, decide_eq_true_eq, beq_iff_eq]
  rw [e]
  exact drop_one ((cpl_nodup _ _).sublist List.filter_sublist) m
/-- a tie of the one is put as in the other -/
theorem put_left {k : Int} {kss ls : List (List Int)} (f : Fine k kss) (g : Fine k ls) (h : WF kss ls) {a b : Nat} (m : (a, b) ∈ unK kss ls) (al : alikeB kss a b = true) :
    Step k kss (setT kss b a (tieN ls b a)) ∧ (unK (setT kss b a (tieN ls b a)) ls).length + 1 = (unK kss ls).length := by
  obtain ⟨h1, _⟩ := List.mem_filter.mp m
  obtain ⟨w1, w2, w3⟩ := (cpl_mem _ _ a b).mp h1
  have v := tieN_in g (i := b) (j := a) (by rw [h.len]; exact w3) (by rw [h.len]; exact w1) (by omega)
  refine ⟨⟨a, b, _, w2, w3, al, v.1, v.2, rfl⟩, un_less (setT_len ..) m fun x y xy yn => ?_⟩
  rw [tie_setT f w2 w3]
  by_cases c : x = a ∧ y = b
  · obtain ⟨rfl, rfl⟩ := c
    rw [if_pos (by omega)]
    simp
  · rw [if_neg (by omega)]
    have : ¬ ((x, y) = (a, b)) := fun z => c (by injection z with z1 z2; exact ⟨z1, z2⟩)
    rw [decide_eq_false this, Bool.or_false]
theorem put_right {k : Int} {kss ls : List (List Int)} (f : Fine k kss) (g : Fine k ls) (h : WF kss ls) {a b : Nat} (m : (a, b) ∈ unK kss ls) (al : alikeB kss a b = false) :
    Step k ls (setT ls b a (tieN kss b a)) ∧ (unK kss (setT ls b a (tieN kss b a))).length + 1 = (unK kss ls).length := by
  obtain ⟨h1, h2⟩ := List.mem_filter.mp m
  obtain ⟨w1, w2, w3⟩ := (cpl_mem _ _ a b).mp h1
  have v := tieN_in f (i := b) (j := a) w3 w1 (by omega)
  have df : tieN kss a b ≠ tieN ls a b := by
    rw [tieN_comm kss, tieN_comm ls]
    simpa using h2
  have al2 : alikeB ls a b = true := by
    rcases h.lone w1 w3 (by omega) df with e | e
    · rw [al] at e
      cases e
    · exact e
  refine ⟨⟨a, b, _, w2, by rw [h.len]; exact w3, al2, v.1, v.2, rfl⟩, un_less rfl m fun x y xy yn => ?_⟩
  rw [tie_setT g w2 (by rw [h.len]; exact w3)]
  by_cases c : x = a ∧ y = b
  · obtain ⟨rfl, rfl⟩ := c
    rw [if_pos (by omega)]
    simp
  · rw [if_neg (by omega)]
    have : ¬ ((x, y) = (a, b)) := fun z => c (by injection z with z1 z2; exact ⟨z1, z2⟩)
    rw [decide_eq_false this, Bool.or_false]
theorem opt_fit {o : Option (Nat × Nat)} (h : ∀ c, o = some c → c.1 < 100 ∧ c.2 < 100) : (optP o).showable = true ∧ (optP o).shown.length ≤ sizeLine ∧ (optP o).depth ≤ 60 := by
  cases o with
  | none => exact (Fit.leaf (x := .none) trivial).fits (by decide) (by decide)
  | some c =>
    obtain ⟨h1, h2⟩ := h c rfl
    exact (Fit.tuple (B := 110) (d := 1) (n := 2) (fun e he => by
      rcases List.mem_cons.mp he with rfl | he
      · exact Fit.int (by show ((c.1 : Nat) : Int).natAbs < 2 ^ 100; omega)
      · rw [List.mem_singleton] at he
        subst he
        exact Fit.int (by show ((c.2 : Nat) : Int).natAbs < 2 ^ 100; omega)) (Nat.le_refl _)).fits (by decide) (by decide)
theorem lone_fit {kss ls : List (List Int)} (n : kss.length ≤ 40) : (optP (loneK kss ls)).showable = true ∧ (optP (loneK kss ls)).shown.length ≤ sizeLine ∧ (optP (loneK kss ls)).depth ≤ 60 := opt_fit fun c h => by
  have := List.mem_of_find?_eq_some h
  obtain ⟨w1, w2, w3⟩ := (cpl_mem _ _ c.1 c.2).mp (List.mem_filter.mp this).1
  omega
theorem two_fit {k : Int} {kss ls : List (List Int)} (f : Fine k kss) (g : Fine k ls) (hk : k ≤ 9) (n : kss.length ≤ 40) (m : ls.length ≤ 40) : (twoP kss ls).showable = true ∧ (twoP kss ls).shown.length ≤ sizeLine ∧ (twoP kss ls).depth ≤ 60 := by
  have one : ∀ {kss : List (List Int)}, Fine k kss → kss.length ≤ 40 → Fit 200000 3 (tabP kss) := fun {kss} f n => (Fit.list (B := 4500) (d := 2) (n := 40) (fun e he => by
    obtain ⟨ks, hks, rfl⟩ := List.mem_map.mp he
    obtain ⟨i, hi, e⟩ := List.getElem_of_mem hks
    obtain ⟨a, b⟩ := f i ks (by rw [List.getElem?_eq_getElem hi, e])
    exact (Fit.ints (n := 40) (by omega) fun z hz => by have := b z hz; omega).more (by decide) (Nat.le_refl _)) (by rw [List.length_map]; exact n)).more (by decide) (Nat.le_refl _)
  exact (Fit.list (B := 200000) (d := 3) (n := 2) (fun e he => by
    rcases List.mem_cons.mp he with rfl | he
    · exact one f n
    · rw [List.mem_singleton] at he
      subst he
      exact one g m) (Nat.le_refl _)).fits (by decide) (by decide)
def spPair : Sp := fun vs H Q _ => ∃ (k : Int) (c d : Addr) (rs ps : List Addr) (kss lss : List (List Int)), vs = [.int k, .ref c, .ref d] ∧ 2 ≤ k ∧ k ≤ 9 ∧ Tab H c rs kss ∧ Tab H d ps lss ∧ Fine k kss ∧ Fine k lss ∧ 1 ≤ kss.length ∧ kss.length ≤ 40 ∧ lss.length = kss.length ∧ ∀ H', Same H H' → Q (.bl true) H'
def spRoad : Sp := fun vs H Q _ => ∃ (k : Int) (c d : Addr) (rs ps : List Addr) (kss lss : List (List Int)), vs = [.int k, .ref c, .ref d] ∧ 2 ≤ k ∧ k ≤ 9 ∧ Tab H c rs kss ∧ Tab H d ps lss ∧ Fine k kss ∧ Fine k lss ∧ 1 ≤ kss.length ∧ kss.length ≤ 14 ∧ lss.length = kss.length ∧ WF kss lss ∧ ∀ H', Same H H' → Q (.bl true) H'
theorem dt_non {K : PySem.W.Frag} {H : Hp} {v : V} (h : Dt K H v .none) : v = .non := by
  cases h
  rfl
end GL

namespace GL
open PySem PySem.Spec PyProof.Rows L2
/-! ### two fors in one comprehension -/
theorem lc2_it {J : It} {n : Nat} {G : Hp → Prop} {Y : Nat → Hp → V → Hp → Prop} (w : Walk J n G Y) {g g1 : TG} {tt tt1 : TT} {wi1 : TI} {te : TE} {vs vs1 : List Nat} {σ : L2.St} {H1 : Hp} {D : Addr} {Qd : Hp → Prop} (Pv : Nat → Hp → Prop) (h0 : Pv 0 (upd H1 D (.lst []))) (hG : ∀ i H, i ≤ n → Pv i H → G H)
    (hs : ∀ i x H H', i < n → Pv i H → Y i H x H' → g x (wipe σ vs) H' fun σ2 H2 => wipe σ2 vs = wipe σ vs ∧ tt σ2 H2 fun b H3 =>
      if b = true then wi1 σ2 H3 fun J1 H4 => ∃ W1 : Nat → Nat → Hp → Prop, (∃ m, W1 0 m H4) ∧ ∀ j k H, W1 j k H →
        (J1.stop j H ∧ Pv (i + 1) H) ∨ (J1.go j H ∧ ∃ Nx1 : Hp → Prop, (∀ H', Nx1 H' → ∃ k', k' < k ∧ W1 (j + 1) k' H') ∧ ∀ x H', J1.yld j H x H' → g1 x (wipe σ2 vs1) H' fun σ3 H5 => wipe σ3 vs1 = wipe σ2 vs1 ∧ tt1 σ3 H5 fun b H6 =>
          if b = true then te σ3 H6 fun y H7 => ∃ acc, H7 D = some (.lst acc) ∧ acc.length < sizeLine ∧ Nx1 (upd H7 D (.lst (acc ++ [y]))) else Nx1 H6)
      else Pv (i + 1) H3) (hd : ∀ H, Pv n H → Qd H) :
    ∃ W : Nat → Nat → Hp → Prop, (∃ m, W 0 m (upd H1 D (.lst []))) ∧ ∀ i m H, W i m H →
      (J.stop i H ∧ Qd H) ∨ (J.go i H ∧ ∃ Nx : Hp → Prop, (∀ H', Nx H' → ∃ m', m' < m ∧ W (i + 1) m' H') ∧ ∀ x H', J.yld i H x H' → g x (wipe σ vs) H' fun σ2 H2 => wipe σ2 vs = wipe σ vs ∧ tt σ2 H2 fun b H3 =>
        if b = true then wi1 σ2 H3 fun J1 H4 => ∃ W1 : Nat → Nat → Hp → Prop, (∃ m, W1 0 m H4) ∧ ∀ j k H, W1 j k H →
          (J1.stop j H ∧ Nx H) ∨ (J1.go j H ∧ ∃ Nx1 : Hp → Prop, (∀ H', Nx1 H' → ∃ k', k' < k ∧ W1 (j + 1) k' H') ∧ ∀ x H', J1.yld j H x H' → g1 x (wipe σ2 vs1) H' fun σ3 H5 => wipe σ3 vs1 = wipe σ2 vs1 ∧ tt1 σ3 H5 fun b H6 =>
            if b = true then te σ3 H6 fun y H7 => ∃ acc, H7 D = some (.lst acc) ∧ acc.length < sizeLine ∧ Nx1 (upd H7 D (.lst (acc ++ [y]))) else Nx1 H6)
        else Nx H3) := by
  refine ⟨fun i m H => m = n - i ∧ i ≤ n ∧ Pv i H, ⟨n, by simp, Nat.zero_le _, h0⟩, ?_⟩
  rintro i m H ⟨rfl, hi, p⟩
  have q := hG i H hi p
  by_cases hlt : i < n
  · exact .inr ⟨w.goes i H hlt q, Pv (i + 1), fun H' p' => ⟨n - (i + 1), by omega, rfl, hlt, p'⟩, fun x H' y => hs i x H H' hlt p (w.yields i H x H' hlt q y)⟩
  · have e : i = n := by omega
    subst e
    exact .inl ⟨w.stops H q, hd H p⟩
theorem lc2_in {J : It} {n : Nat} {G : Hp → Prop} {Y : Nat → Hp → V → Hp → Prop} (w : Walk J n G Y) {g1 : TG} {tt1 : TT} {te : TE} {vs1 : List Nat} {σ2 : L2.St} {H4 : Hp} {D : Addr} {Nx : Hp → Prop} (Pv : Nat → Hp → Prop) (h0 : Pv 0 H4) (hG : ∀ i H, i ≤ n → Pv i H → G H)
    (hs : ∀ j x H H', j < n → Pv j H → Y j H x H' → g1 x (wipe σ2 vs1) H' fun σ3 H5 => wipe σ3 vs1 = wipe σ2 vs1 ∧ tt1 σ3 H5 fun b H6 =>
      if b = true then te σ3 H6 fun y H7 => ∃ acc, H7 D = some (.lst acc) ∧ acc.length < sizeLine ∧ Pv (j + 1) (upd H7 D (.lst (acc ++ [y]))) else Pv (j + 1) H6) (hd : ∀ H, Pv n H → Nx H) :
    ∃ W1 : Nat → Nat → Hp → Prop, (∃ m, W1 0 m H4) ∧ ∀ j k H, W1 j k H →
      (J.stop j H ∧ Nx H) ∨ (J.go j H ∧ ∃ Nx1 : Hp → Prop, (∀ H', Nx1 H' → ∃ k', k' < k ∧ W1 (j + 1) k' H') ∧ ∀ x H', J.yld j H x H' → g1 x (wipe σ2 vs1) H' fun σ3 H5 => wipe σ3 vs1 = wipe σ2 vs1 ∧ tt1 σ3 H5 fun b H6 =>
        if b = true then te σ3 H6 fun y H7 => ∃ acc, H7 D = some (.lst acc) ∧ acc.length < sizeLine ∧ Nx1 (upd H7 D (.lst (acc ++ [y]))) else Nx1 H6) := by
  refine ⟨fun i m H => m = n - i ∧ i ≤ n ∧ Pv i H, ⟨n, by simp, Nat.zero_le _, h0⟩, ?_⟩
  rintro i m H ⟨rfl, hi, p⟩
  have q := hG i H hi p
  by_cases hlt : i < n
  · exact .inr ⟨w.goes i H hlt q, Pv (i + 1), fun H' p' => ⟨n - (i + 1), by omega, rfl, hlt, p'⟩, fun x H' y => hs i x H H' hlt p (w.yields i H x H' hlt q y)⟩
  · have e : i = n := by omega
    subst e
    exact .inl ⟨w.stops H q, hd H p⟩
/-! ### what a deed is -/
def isTup : PyData → Bool
  | .tuple _ => true | _ => false
theorem kit_tuple {K : PySem.W.Frag} (d : PyData) : PySem.W.kitOne K (.type (tyOf d)) (.type "tuple") = some (isTup d) := by
  cases d with
  | none => exact kit_ty (show kitB "NoneType" "tuple" = some false by decide +kernel)
  | bool _ => exact kit_ty (show kitB "bool" "tuple" = some false by decide +kernel)
  | int _ => exact kit_ty (show kitB "int" "tuple" = some false by decide +kernel)
  | str _ => exact kit_ty (show kitB "str" "tuple" = some false by decide +kernel)
  | list _ => exact kit_ty (show kitB "list" "tuple" = some false by decide +kernel)
  | tuple _ => exact kit_ty (show kitB "tuple" "tuple" = some true by decide +kernel)
  | dict _ => exact kit_ty (show kitB "dict" "tuple" = some false by decide +kernel)
def cTail (x : PyData) : PyData → Bool
  | .int j => below j x
  | _ => false
def coupleOk (n : Int) (x y : PyData) : Bool := below n y && cTail x y
def cplD (n : Int) : PyData → Bool
  | .tuple [x, y] => coupleOk n x y
  | _ => false
def headOk (n : Int) : PyData → Bool
  | .tuple [x, y, _] => coupleOk n x y
  | _ => false
def deedV (kss : List (List Int)) (a b : Nat) : PyData → Bool
  | .int v => !decide (v = tieN kss a b) && alikeB kss a b
  | _ => false
def deedT (k : Int) (kss : List (List Int)) : PyData → Bool
  | .tuple [.int a, .int b, z] => below k z && deedV kss a.toNat b.toNat z
  | _ => false
def deedB (k : Int) (kss : List (List Int)) (d : PyData) : Bool := headOk kss.length d && deedT k kss d
theorem below_int {k : Int} {d : PyData} (h : below k d = true) : ∃ i : Int, d = .int i ∧ 0 ≤ i ∧ i < k := by
  cases d with
  | int i =>
    have h' : (decide (0 ≤ i) && decide (i < k)) = true := h
    rw [Bool.and_eq_true] at h'
    exact ⟨i, rfl, of_decide_eq_true h'.1, of_decide_eq_true h'.2⟩
  | _ => cases h
theorem below_of {k i : Int} (h0 : 0 ≤ i) (h1 : i < k) : below k (.int i) = true := by
  show (decide (0 ≤ i) && decide (i < k)) = true
  rw [decide_eq_true h0, decide_eq_true h1]
  rfl
theorem couple_nat {n : Int} {x y : PyData} (h : coupleOk n x y = true) : ∃ a b : Nat, x = .int (a : Nat) ∧ y = .int (b : Nat) ∧ a < b ∧ (b : Int) < n := by
  unfold coupleOk at h
  rw [Bool.and_eq_true] at h
  obtain ⟨j, rfl, j0, j1⟩ := below_int h.1
  obtain ⟨i, rfl, i0, i1⟩ := below_int h.2
  exact ⟨i.toNat, j.toNat, by rw [Int.toNat_of_nonneg i0], by rw [Int.toNat_of_nonneg j0], by omega, by omega⟩
theorem head_nat {n : Int} {d : PyData} (h : headOk n d = true) : ∃ (a b : Nat) (z : PyData), d = .tuple [.int (a : Nat), .int (b : Nat), z] ∧ a < b ∧ (b : Int) < n := by
  match d, h with
  | .tuple [x, y, z], h =>
    obtain ⟨a, b, rfl, rfl, h1, h2⟩ := couple_nat (n := n) h
    exact ⟨a, b, z, rfl, h1, h2⟩
theorem deed_nat {k : Int} {kss : List (List Int)} {d : PyData} (h : deedB k kss d = true) : ∃ (a b : Nat) (v : Int), d = .tuple [.int (a : Nat), .int (b : Nat), .int v] ∧ a < b ∧ b < kss.length ∧ 0 ≤ v ∧ v < k ∧ v ≠ tieN kss a b ∧ alikeB kss a b = true := by
  unfold deedB at h
  rw [Bool.and_eq_true] at h
  obtain ⟨a, b, z, rfl, h1, h2⟩ := head_nat h.1
  have h3 : (below k z && deedV kss a b z) = true := h.2
  rw [Bool.and_eq_true] at h3
  obtain ⟨v, rfl, v0, v1⟩ := below_int h3.1
  have h4 : (!decide (v = tieN kss a b) && alikeB kss a b) = true := h3.2
  rw [Bool.and_eq_true] at h4
  exact ⟨a, b, v, rfl, h1, by omega, v0, v1, by simpa using h4.1, h4.2⟩
theorem deed_of {k : Int} {kss : List (List Int)} {a b : Nat} {v : Int} (ab : a < b) (bn : b < kss.length) : deedB k kss (.tuple [.int (a : Nat), .int (b : Nat), .int v]) = (below k (.int v) && (!decide (v = tieN kss a b) && alikeB kss a b)) := by
  unfold deedB
  have : headOk kss.length (.tuple [.int (a : Nat), .int (b : Nat), .int v]) = true := by
    show coupleOk _ _ _ = true
    unfold coupleOk
    rw [below_of (k := (kss.length : Nat)) (i := (b : Nat)) (by omega) (by omega)]
    exact below_of (k := (b : Nat)) (i := (a : Nat)) (by omega) (by omega)
  rw [this]
  rfl
/-- a deed done -/
def doD (kss : List (List Int)) : PyData → List (List Int)
  | .tuple [.int a, .int b, .int v] => setT kss b.toNat a.toNat v
  | _ => kss
def followK (k : Int) : List (List Int) → List PyData → Nat → List (List Int) × Nat
  | kss, [], i => (kss, i)
  | kss, d :: ds, i => if deedB k kss d then followK k (doD kss d) ds (i + 1) else (kss, i)
theorem deed_step {k : Int} {kss : List (List Int)} {d : PyData} (h : deedB k kss d = true) : Step k kss (doD kss d) := by
  obtain ⟨a, b, v, rfl, ab, bn, v0, v1, _, al⟩ := deed_nat h
  exact ⟨a, b, v, ab, bn, al, v0, v1, rfl⟩
theorem follow_cons (k : Int) (kss : List (List Int)) (d : PyData) (ds : List PyData) (i : Nat) : followK k kss (d :: ds) i = if deedB k kss d then followK k (doD kss d) ds (i + 1) else (kss, i) := rfl
theorem follow_fine {k : Int} : ∀ {ds : List PyData} {kss : List (List Int)} {i : Nat}, Fine k kss → Fine k (followK k kss ds i).1 ∧ (followK k kss ds i).1.length = kss.length
  | [], kss, i, f => ⟨f, rfl⟩
  | d :: ds, kss, i, f => by
    rw [follow_cons]
    cases h : deedB k kss d with
    | false => exact ⟨f, rfl⟩
    | true =>
      have st := deed_step h
      obtain ⟨x, y⟩ := follow_fine (ds := ds) (i := i + 1) (st.fine f)
      rw [if_pos rfl]
      exact ⟨x, y.trans st.len⟩
/-- the table of ties, with one put -/
theorem Mat.tie {H : Hp} {m ra rb : Addr} {ps : List Addr} {k v : Int} {kss : List (List Int)} {a b : Nat} (M : Mat H m ps kss.length (tieV kss)) (f : Fine k kss) (ab : a < b) (bn : b < kss.length) (ha : ps[a]? = some ra) (hb : ps[b]? = some rb) :
    ∃ ya yb : List V, H ra = some (.lst ya) ∧ ya.length = kss.length ∧ (upd H ra (.lst (ya.set b (.int v)))) rb = some (.lst yb) ∧ yb.length = kss.length ∧ Mat (upd (upd H ra (.lst (ya.set b (.int v)))) rb (.lst (yb.set a (.int v)))) m ps (setT kss b a v).length (tieV (setT kss b a v)) := by
  have M1 := M.set (v := .int v) ha bn
  have hrb := M1.row b rb hb
  refine ⟨_, _, M.row a ra ha, by rw [List.length_map, List.length_range], hrb, by rw [List.length_map, List.length_range], ?_⟩
  have M2 := M1.set (v := .int v) hb (by omega : a < kss.length)
  rw [setT_len]
  refine M2.congr fun i j hi hj => ?_
  unfold tieV
  rw [tie_setT f ab bn]
  by_cases c1 : i = b ∧ j = a
  · obtain ⟨rfl, rfl⟩ := c1
    rw [if_pos ⟨rfl, rfl⟩, if_neg (by omega), if_pos (by omega)]
  · rw [if_neg c1]
    by_cases c2 : i = a ∧ j = b
    · obtain ⟨rfl, rfl⟩ := c2
      rw [if_pos ⟨rfl, rfl⟩, if_neg (by omega), if_pos (by omega)]
    · rw [if_neg c2, if_neg (by omega : ¬ (max i j = b ∧ min i j = a))]
def spCoupleD (K : PySem.W.Frag) : Sp := fun vs H Q _ => ∃ (n : Int) (x : V) (d : PyData), vs = [.int n, x] ∧ Dt K H x d ∧ Q (.bl (cplD n d)) H
def spDeedNow (K : PySem.W.Frag) : Sp := fun vs H Q _ => ∃ (k : Int) (m : Addr) (x : V) (d : PyData) (ps : List Addr) (kss : List (List Int)), vs = [.int k, .ref m, x] ∧ Mat H m ps kss.length (tieV kss) ∧ kss.length ≤ 40 ∧ Dt K H x d ∧ ∀ H', Same H H' → Q (.bl (deedB k kss d)) H'
def spCompWith : Sp := fun vs H Q _ => ∃ (m : Addr) (ps : List Addr) (kss : List (List Int)) (k : Int), vs = [.ref m] ∧ Mat H m ps kss.length (tieV kss) ∧ Fine k kss ∧ kss.length ≤ 100 ∧ ∀ (c : Addr) (rs : List Addr) (H' : Hp), Same H H' → H c = none → Objs H H' c rs kss.length (fun i => .lst ((kss.getD i []).map V.int)) → Q (.ref c) H'
def spFollowed (K : PySem.W.Frag) : Sp := fun vs H Q _ => ∃ (k : Int) (c r : Addr) (rs : List Addr) (kss : List (List Int)) (xs : List V) (ds : List PyData), vs = [.int k, .ref c, .ref r] ∧ Tab H c rs kss ∧ Fine k kss ∧ kss.length ≤ 40 ∧ H r = some (.lst xs) ∧ Dts K H xs ds ∧ xs.length ≤ 100000 ∧
  ∀ (T p : Addr) (ps : List Addr) (H' : Hp), Same H H' → H' T = some (.tup [.ref p, .int ((followK k kss ds 0).2 : Nat)]) → Tab H' p ps (followK k kss ds 0).1 → H p = none → p ∉ ps → (∀ r ∈ ps, H r = none) → Q (.ref T) H'
end GL
namespace GL
open PySem PySem.Spec PyProof.Rows L2
/-- threes of people and a kind, as data -/
abbrev DeedT := Addr × Nat × Nat × Int
def deedV3 (c : Nat × Nat × Int) : List V := [.int (c.1 : Nat), .int (c.2.1 : Nat), .int c.2.2]
def deedP (c : Nat × Nat × Int) : PyData := .tuple [.int (c.1 : Nat), .int (c.2.1 : Nat), .int c.2.2]
structure Deeds (H0 H : Hp) (a : Addr) (ts : List DeedT) : Prop where
  top : H a = some (.lst (ts.map fun t => V.ref t.1))
  row : ∀ t ∈ ts, H t.1 = some (.tup (deedV3 t.2))
  new : ∀ t ∈ ts, H0 t.1 = none
theorem Deeds.same {H0 H H' : Hp} {a : Addr} {ts : List DeedT} (r : Deeds H0 H a ts) (s : Same H H') : Deeds H0 H' a ts := ⟨s _ _ r.top, fun t ht => s _ _ (r.row t ht), r.new⟩
theorem Deeds.back {H0 H1 H : Hp} {a : Addr} {ts : List DeedT} (r : Deeds H1 H a ts) (s : Same H0 H1) : Deeds H0 H a ts := ⟨r.top, r.row, fun t ht => s.free (r.new t ht)⟩
theorem Deeds.push {H0 H H' : Hp} {D p : Addr} {ts : List DeedT} {c : Nat × Nat × Int} (R : Deeds H0 H D ts) (s : Same H H') (hp : H p = none) (h0 : H0 p = none) (f : H' p = some (.tup (deedV3 c))) : Deeds H0 (upd H' D (.lst ((ts.map fun t => V.ref t.1) ++ [V.ref p]))) D (ts ++ [(p, c)]) := by
  have Dp : D ≠ p := ne_of_none R.top hp
  refine ⟨by rw [upd_same, List.map_append]; rfl, fun u hu => ?_, fun u hu => ?_⟩
  · rcases List.mem_append.mp hu with hu | hu
    · have h0 := R.row u hu
      rw [upd_ne (ne_of h0 R.top (by intro z; cases z))]
      exact s _ _ h0
    · rw [List.mem_singleton] at hu
      subst hu
      show upd H' D _ p = _
      rw [upd_ne Dp.symm]
      exact f
  · rcases List.mem_append.mp hu with hu | hu
    · exact R.new u hu
    · rw [List.mem_singleton] at hu
      subst hu
      exact h0
theorem Deeds.dt {K : PySem.W.Frag} {H0 H : Hp} {a : Addr} {ts : List DeedT} (R : Deeds H0 H a ts) : Dt K H (.ref a) (.list ((ts.map (·.2)).map deedP)) := by
  refine .lst R.top ?_
  have g : ∀ us : List DeedT, (∀ t ∈ us, t ∈ ts) → Dts K H (us.map fun t => V.ref t.1) ((us.map (·.2)).map deedP) := fun us => by
    induction us with
    | nil => exact fun _ => .nil
    | cons u us ih => exact fun h => .cons (.tup (R.row u (h u (List.mem_cons_self ..))) (.cons (.int _) (.cons (.int _) (.cons (.int _) .nil)))) (ih fun t ht => h t (List.mem_cons_of_mem _ ht))
  exact g ts fun _ h => h
/-- the deeds of one couple, of the first j kinds -/
def kindsOf (kss : List (List Int)) (c : Nat × Nat) (j : Nat) : List (Nat × Nat × Int) := ((List.range j).filter fun (v : Nat) => !decide ((v : Int) = tieN kss c.2 c.1)).map fun (v : Nat) => (c.1, c.2, (v : Int))
def deedsL (k : Int) (kss : List (List Int)) : List (Nat × Nat × Int) := ((cplTo kss.length kss.length).filter fun c => alikeB kss c.1 c.2).flatMap fun c => kindsOf kss c k.toNat
def deedsP (k : Int) (kss : List (List Int)) : PyData := .list ((deedsL k kss).map deedP)
theorem kinds_more (kss : List (List Int)) (c : Nat × Nat) (j : Nat) : kindsOf kss c (j + 1) = kindsOf kss c j ++ (if (!decide ((j : Int) = tieN kss c.2 c.1)) then [(c.1, c.2, (j : Int))] else []) := by
  unfold kindsOf
  rw [List.range_succ, List.filter_append, List.map_append]
  congr 1
  cases h : (!decide ((j : Int) = tieN kss c.2 c.1)) <;> simp [h]
theorem kinds_len (kss : List (List Int)) (c : Nat × Nat) (j : Nat) : (kindsOf kss c j).length ≤ j := by
  unfold kindsOf
  rw [List.length_map]
  have := List.length_filter_le (fun v : Nat => !decide ((v : Int) = tieN kss c.2 c.1)) (List.range j)
  rw [List.length_range] at this
  exact this
def spDeeds : Sp := fun vs H Q _ => ∃ (k : Int) (c : Addr) (rs : List Addr) (kss : List (List Int)), vs = [.int k, .ref c] ∧ 2 ≤ k ∧ k ≤ 9 ∧ Tab H c rs kss ∧ Fine k kss ∧ 1 ≤ kss.length ∧ kss.length ≤ 40 ∧
  ∀ (p : Addr) (ts : List DeedT) (H' : Hp), Same H H' → H p = none → Deeds H H' p ts → ts.map (·.2) = deedsL k kss → Q (.ref p) H'
def spIsDeed (K : PySem.W.Frag) : Sp := fun vs H Q _ => ∃ (k : Int) (c : Addr) (x : V) (d : PyData) (rs : List Addr) (kss : List (List Int)), vs = [.int k, .ref c, x] ∧ 2 ≤ k ∧ k ≤ 9 ∧ Tab H c rs kss ∧ Fine k kss ∧ 1 ≤ kss.length ∧ kss.length ≤ 40 ∧ Dt K H x d ∧ ∀ H', Same H H' → Q (.bl (deedB k kss d)) H'
def spDone (K : PySem.W.Frag) : Sp := fun vs H Q _ => ∃ (k : Int) (c : Addr) (x : V) (d : PyData) (rs : List Addr) (kss : List (List Int)), vs = [.int k, .ref c, x] ∧ 2 ≤ k ∧ k ≤ 9 ∧ Tab H c rs kss ∧ Fine k kss ∧ 1 ≤ kss.length ∧ kss.length ≤ 40 ∧ Dt K H x d ∧ deedB k kss d = true ∧
  ∀ (p : Addr) (ps : List Addr) (H' : Hp), Same H H' → Tab H' p ps (doD kss d) → H p = none → p ∉ ps → (∀ r ∈ ps, H r = none) → Q (.ref p) H'
def roadOk (k : Int) (kss : List (List Int)) (ds : List PyData) : Bool := decide ((followK k kss ds 0).2 = ds.length)
def spLedP (K : PySem.W.Frag) : Sp := fun vs H Q _ => ∃ (k : Int) (c r : Addr) (rs : List Addr) (kss : List (List Int)) (xs : List V) (ds : List PyData), vs = [.int k, .ref c, .ref r] ∧ 2 ≤ k ∧ k ≤ 9 ∧ Tab H c rs kss ∧ Fine k kss ∧ 1 ≤ kss.length ∧ kss.length ≤ 40 ∧ H r = some (.lst xs) ∧ Dts K H xs ds ∧ xs.length ≤ 100000 ∧ (followK k kss ds 0).2 = ds.length ∧
  ∀ (p : Addr) (ps : List Addr) (H' : Hp), Same H H' → Tab H' p ps (followK k kss ds 0).1 → H p = none → p ∉ ps → (∀ r ∈ ps, H r = none) → Q (.ref p) H'
def roadD (k : Int) (kss : List (List Int)) : PyData → Bool
  | .list ds => roadOk k kss ds
  | _ => false
def spIsRoad (K : PySem.W.Frag) : Sp := fun vs H Q _ => ∃ (k : Int) (c : Addr) (x : V) (d : PyData) (rs : List Addr) (kss : List (List Int)), vs = [.int k, .ref c, x] ∧ 2 ≤ k ∧ k ≤ 9 ∧ Tab H c rs kss ∧ Fine k kss ∧ 1 ≤ kss.length ∧ kss.length ≤ 40 ∧ Dt K H x d ∧ (∀ ds, d = .list ds → ds.length ≤ 100000) ∧ ∀ H', Same H H' → Q (.bl (roadD k kss d)) H'
end GL

namespace GL
open PySem PySem.Spec PyProof.Rows L2
section
variable {X : Cx} {a b c d : Expr} {ta tb tc td : TE} {pos : Pos}
/-- a op1 b op2 c op3 d -/
def tChain3 (r r' r'' : R2) (ta tb tc td : TE) : TE := fun σ H Q => ta σ H fun x H1 => tb σ H1 fun y H2 => r x y H2 fun z H3 => ∃ k, z = .bl k ∧
  (if k = true then tc σ H3 fun w' H4 => r' y w' H4 fun z' H5 => ∃ k', z' = .bl k' ∧ (if k' = true then td σ H5 fun u' H6 => r'' w' u' H6 Q else Q (.bl false) H5) else Q (.bl false) H3)
theorem pt_chain3 {op op' op'' : CmpOp} {r r' r'' : R2} (ho : OpR X (compareOp op) r) (ho' : OpR X (compareOp op') r') (ho'' : OpR X (compareOp op'') r'') (ha : PE X a ta) (hb : PE X b tb) (hc : PE X c tc) (hd : PE X d td)
    (hm : lastMarks [op, op', op''] [b, c, d] = false := by with_unfolding_all rfl) : PT X (.Compare a [op, op', op''] [b, c, d] pos) (tTest (tChain3 r r' r'' ta tb tc td)) := by
  refine ⟨fun pins s σ H Q I h => ?_⟩
  refine isTrue_chain (thn (ha.run pins s σ H _ I h) fun v s1 ⟨x, H1, I1, r1, q1⟩ => test_link (thn (hb.run pins s1 σ H1 _ I1 q1) fun u s2 ⟨y, H2, I2, r2, q2⟩ =>
    thn (ho pins s2 σ H2 x y v u _ I2 r1 r2 q2) fun e s3 ⟨z, H3, I3, r3, k, e1, q3⟩ => ?_)) hm
  subst e1
  cases r3
  refine wpAny_truthy_bool ?_
  cases k with
  | false =>
    obtain ⟨k', e', q'⟩ := q3
    cases e'
    exact ite_ff ⟨H3, I3, q'⟩
  | true =>
    refine ite_tt (test_link (thn (hc.run pins s3 σ H3 _ I3 q3) fun w' s4 ⟨z', H4, I4, r4, q4⟩ => thn (ho' pins s4 σ H4 y z' u w' _ I4 r2 r4 q4) fun d' s5 ⟨z2, H5, I5, r5, k2, e2, q5⟩ => ?_))
    subst e2
    cases r5
    refine wpAny_truthy_bool ?_
    cases k2 with
    | false =>
      obtain ⟨k', e', q'⟩ := q5
      cases e'
      exact ite_ff ⟨H5, I5, q'⟩
    | true =>
      refine ite_tt (test_last (thn (hd.run pins s5 σ H5 _ I5 q5) fun w3 s6 ⟨z3, H6, I6, r6, q6⟩ => thn (ho'' pins s6 σ H6 z' z3 w' w3 _ I6 r4 r6 q6) fun d3 s7 ⟨z4, H7, I7, r7, k3, e3, q7⟩ => ?_))
      subst e3
      cases r7
      exact wpAny_truthy_bool ⟨H7, I7, q7⟩
end
def spRetied : Sp := fun vs H Q _ => ∃ (c t : Addr) (rs : List Addr) (kss : List (List Int)) (k : Int) (a b : Nat) (v : Int), vs = [.ref c, .ref t] ∧ Tab H c rs kss ∧ Fine k kss ∧ kss.length ≤ 40 ∧ H t = some (.tup (deedV3 (a, b, v))) ∧ a < b ∧ b < kss.length ∧
  ∀ (p : Addr) (ps : List Addr) (H' : Hp), Same H H' → Tab H' p ps (setT kss b a v) → H p = none → (∀ r ∈ ps, H r = none) → Q (.ref p) H'
def spRoadL : Sp := fun vs H Q _ => ∃ (g : Addr) (k : Int) (c : Addr) (m n : Nat) (rs : List Addr) (kss : List (List Int)), vs = [.ref g, .int k, .ref c, .int m] ∧ 2 ≤ k ∧ k ≤ 9 ∧ m ≤ 20 ∧ Gen H g (n + 5 * m) ∧ Tab H c rs kss ∧ Fine k kss ∧ kss.length ≤ 40 ∧ c ≠ g ∧ g ∉ rs ∧
  ∀ (T R p : Addr) (ts : List DeedT) (ps : List Addr) (ks : List (List Int)) (H' : Hp), But g H H' → Gen H' g n → H' T = some (.tup [.ref R, .ref p]) → Deeds H H' R ts → H R = none → ts.length ≤ m → Tab H' p ps ks → p ≠ g → g ∉ ps → followK k kss (ts.map fun t => deedP t.2) 0 = (ks, ts.length) → Q (.ref T) H'
def spIsDeedL (K : PySem.W.Frag) : Sp := fun vs H Q _ => ∃ (k : Int) (c : Addr) (x : V) (d : PyData) (rs : List Addr) (kss : List (List Int)), vs = [.int k, .ref c, x] ∧ Tab H c rs kss ∧ Fine k kss ∧ kss.length ≤ 40 ∧ Dt K H x d ∧ ∀ H', Same H H' → Q (.bl (deedB k kss d)) H'
theorem follow_more {k : Int} : ∀ {ds : List PyData} {kss ks : List (List Int)} {i : Nat} {d : PyData}, followK k kss ds i = (ks, i + ds.length) → deedB k ks d = true → followK k kss (ds ++ [d]) i = (doD ks d, i + ds.length + 1)
  | [], kss, ks, i, d, h, hB => by
    have e : kss = ks := congrArg (·.1) h
    subst e
    show followK k kss (d :: []) i = _
    rw [follow_cons, hB, if_pos rfl]
    rfl
  | x :: ds, kss, ks, i, d, h, hB => by
    rw [follow_cons] at h
    show followK k kss (x :: (ds ++ [d])) i = _
    rw [follow_cons]
    cases hx : deedB k kss x with
    | false =>
      rw [hx, if_neg (by decide)] at h
      have := congrArg (·.2) h
      simp at this
    | true =>
      rw [hx, if_pos rfl] at h
      rw [if_pos rfl]
      have := follow_more (i := i + 1) (d := d) (ds := ds) (kss := doD kss x) (ks := ks) (by rw [h, List.length_cons]; congr 1; omega) hB
      rw [this, List.length_cons]
      congr 1
      omega
theorem deeds_mem {k : Int} {kss : List (List Int)} {c : Nat × Nat × Int} (k0 : 0 ≤ k) (h : c ∈ deedsL k kss) : c.1 < c.2.1 ∧ c.2.1 < kss.length ∧ 0 ≤ c.2.2 ∧ c.2.2 < k ∧ c.2.2 ≠ tieN kss c.1 c.2.1 ∧ alikeB kss c.1 c.2.1 = true := by
  obtain ⟨x, h1, h2⟩ := List.mem_flatMap.mp h
  obtain ⟨h3, h4⟩ := List.mem_filter.mp h1
  obtain ⟨w1, w2, w3⟩ := (cpl_mem _ _ x.1 x.2).mp h3
  obtain ⟨v, hv, rfl⟩ := List.mem_map.mp h2
  obtain ⟨v1, v2⟩ := List.mem_filter.mp hv
  have := List.mem_range.mp v1
  refine ⟨w2, w3, by show (0 : Int) ≤ (v : Int); omega, by show (v : Int) < k; omega, ?_, h4⟩
  show (v : Int) ≠ tieN kss x.1 x.2
  rw [tieN_comm]
  simpa using v2
theorem deed_ok {k : Int} {kss : List (List Int)} {c : Nat × Nat × Int} (k0 : 0 ≤ k) (h : c ∈ deedsL k kss) : deedB k kss (deedP c) = true := by
  obtain ⟨h1, h2, h3, h4, h5, h6⟩ := deeds_mem k0 h
  unfold deedP
  rw [deed_of h1 h2, below_of h3 h4, h6, decide_eq_false h5]
  rfl
theorem do_deed (kss : List (List Int)) (c : Nat × Nat × Int) : doD kss (deedP c) = setT kss c.2.1 c.1 c.2.2 := rfl
end GL
namespace GL
open PySem PySem.Spec PyProof.Rows L2
abbrev gQ210 := gK
abbrev gQV210 := gKV
theorem gQ210_rel {vs : List V} {us : List Value} {zs : List V} {ws : List Value} (a : Vals vs us) (b : Vals zs ws) : Vals (gQV210 vs zs) (gQ210 us ws) := gK_rel a b
abbrev gQ10 := gK2
abbrev gQV10 := gKV2
theorem gQ10_rel {vs : List V} {us : List Value} {zs : List V} {ws : List Value} (a : Vals vs us) (b : Vals zs ws) : Vals (gQV10 vs zs) (gQ10 us ws) := gK2_rel a b
/-- all but g stays where g alone is drawn from -/
theorem But.hid {g : Addr} {H H' : Hp} (b : But g H H') : Same (hid H g) (hid H' g) := fun x o e => by
  have n := hid_none e
  rw [hid_ne n] at e ⊢
  exact b _ _ e n
theorem gen2 (H : Hp) {p g : Addr} {n : Nat} (h : H p = none) (G : Gen H g n) (o : HO) : ∃ H', upd H p o = H' ∧ Same H H' ∧ H' p = some o ∧ Same (GL.hid H g) (GL.hid H' g) ∧ GL.hid H' g p = some o ∧ Gen H' g n := by
  obtain ⟨H', e, s, f⟩ := gen H h o
  have pg : p ≠ g := (G.ne h).symm
  exact ⟨H', e, s, f, hid_mono s, hid_in f pg, G.same s⟩
def spBentL (K : PySem.W.Frag) : Sp := fun vs H Q _ => ∃ (g : Addr) (k : Int) (c t : Addr) (n : Nat) (rs : List Addr) (kss : List (List Int)) (a b : Nat) (v : Int), vs = [.ref g, .int k, .ref c, .ref t] ∧ 2 ≤ k ∧ k ≤ 9 ∧ Gen H g (n + 100) ∧ Tab H c rs kss ∧ 1 ≤ kss.length ∧ kss.length ≤ 40 ∧ H t = some (.tup (deedV3 (a, b, v))) ∧
  ∀ (p : Addr) (xs : List V) (ds : List PyData) (H' : Hp), But g H H' → Gen H' g n → H' p = some (.lst xs) → p ≠ g → Dts K (hid H' g) xs ds → xs.length ≤ 200 → Q (.ref p) H'
end GL

namespace GL
open PySem PySem.Spec PyProof.Rows L2
/-! ### an exception that is caught, kept under another name, and looked at behind the try -/
/-- at a: an exception of the class cls with its dict at d -/
def Exn (cls : Value) (d : Option Addr) (a : Addr) : HO := .ext fun h => ∃ (oe : Obj) (vs : Array Value), h.get? a = some oe ∧ Zc cls d oe ∧ oe.data = .fields vs
theorem exn_ok {P : Program} {w : World} {H : Hp} {h : Heap} {a : Addr} {cls : Value} {d : Option Addr} {oe : Obj} {vs : Array Value} (e : h.get? a = some oe) (z : Zc cls d oe) (f : oe.data = .fields vs) : ObjOk P w H h a (Exn cls d a) :=
  ⟨⟨oe, vs, e, z, f⟩, ⟨oe, e⟩, fun _ _ ⟨o, v, q, r⟩ k => ⟨o, v, k o q, r⟩⟩
section
variable {X : Cx} {pins : List (Addr × Obj)} {σ : L2.St} {H : Hp} {s : Shared}
/-- an object that stands and is nobody's is tracked from here on -/
theorem Inv.track {a : Addr} {o : HO} {oe : Obj} {vs : Array Value} (I : Inv X pins σ H s) (he : s.heap.get? a = some oe) (hd : oe.data = .fields vs) (na : H a = none) (n0 : X.s_0.heap.get? a = none) (nL : a ≠ X.env.locals) (np : ∀ p ∈ X.pn ++ pins, p.1 ≠ a)
    (new : ObjOk X.prog X.w (upd H a o) s.heap a o) : Inv X pins σ (upd H a o) s := by
  have u : ∀ {b : Addr}, b ≠ a → upd H a o b = H b := fun nb => upd_ne nb
  have s0 : ∀ {b : Addr} {v : Obj}, X.s_0.heap.get? b = some v → b ≠ a := fun e z => by rw [z, n0] at e; cases e
  have hs : ∀ {b : Addr} {v : HO}, H b = some v → b ≠ a := fun e z => by rw [z, na] at e; cases e
  refine ⟨I.ok, I.os, I.bare, ⟨I.base.keep, I.base.slot, fun b v e n x => by rw [u (s0 e)]; exact I.base.free b v e n x, I.base.there, fun b xs e => ?_, fun b v xs e => ?_, fun b ps e => ?_⟩, I.loc, I.cell, by rw [u (Ne.symm nL)]; exact I.free, fun x c e => ?_, fun p hp => ?_, I.hok.laidN (fun _ _ z => z) na new, I.len⟩
  · have q := I.base.tups b xs e
    rwa [u (hs q)]
  · have q := I.base.frzs b v xs e
    rwa [u (hs q)]
  · obtain ⟨m, q⟩ := I.base.tbls b ps e
    exact ⟨m, by rwa [u (hs q)]⟩
  · have ca : c ≠ a := fun z => by
      obtain ⟨v, o', q1, q2⟩ := I.cell x c e
      rw [z, he] at q1
      cases q1
      rw [hd] at q2
      cases q2
    rw [u ca]
    exact I.freeC x c e
  · obtain ⟨e, n, r⟩ := I.pin p hp
    exact ⟨e, by rw [u (np p hp)]; exact n, r⟩
end
/-- what the clause wishes of an exception of the body: it is kept, its class and dict told, behind the suite -/
def wKeep (K : PySem.W.Frag) (c : Value) (i : Nat) (ts : Addr → Value → Option Addr → TS) (Wout : WX) (D : Ends) : WX := fun cls d σ H =>
  ∃ b, PySem.W.exmOne K cls c = some b ∧ (b = false → Wout cls d σ H) ∧ (b = true → ∀ a, H a = none → ts a cls d
    { nx := fun σ1 H1 => H1 a = none → D.nx (σ1.set i none) (upd H1 a (Exn cls d a)), rt := D.rt, bk := fun σ1 H1 => D.bk (σ1.set i none) H1, ct := fun σ1 H1 => H1 a = none → D.ct (σ1.set i none) (upd H1 a (Exn cls d a)) } (σ.set i (some (.ref a))) H)
theorem not_frame {B h : Heap} {l : List Env} {a : Addr} {o : Obj} {vs : Array Value} (F : h.FunFrames B l) (e : h.get? a = some o) (d : o.data = .fields vs) : a ∉ frs l := fun hm => by
  obtain ⟨_, o2, e2, n⟩ := F.mem hm
  cases e.symm.trans e2
  exact n _ d
section
variable {X : Cx} {x n : Str} {c : Value} {i : Nat} {body suite : List Stmt} {b₀ : Stmt} {np pos pos2 : Pos} {tb : WX → TS} {ts : Addr → Value → Option Addr → TS} {Wout : WX}
/-- try: body / except x as n: suite; what is caught is tracked behind it -/
theorem ps_try_keep (hs : X.stack = X.env :: X.outer) (hf : X.env.frame = some X.env.locals) (hN : X.N.Nodup) (hi : X.N[i]? = some n) (hln : X.env.kindOf n = some .local) (hc : Names X x c) (hex : X.ex = []) (tk : Takes X Wout)
    (hb : ∀ (W : WX) (pn : List (Addr × Obj)) (xe : Value → Shared → Prop), Takes (X.tr pn xe) W → PassesOwn (model X.prog X.w) X.A X.env xe → PSs (X.tr pn xe) body (tb W))
    (hsu : ∀ (a : Addr) (oe : Obj) (cls : Value) (d : Option Addr) (pn : List (Addr × Obj)), Zc cls d oe → (∃ vs, oe.data = .fields vs) → PSs (X.suite a ((a, oe) :: pn)) (b₀ :: suite) (ts a cls d)) :
    PS X (.Try body [.ExceptHandler (some (.Name x np)) (some n) (b₀ :: suite) pos2] [] [] pos) (fun D σ H => tb (wKeep X.K c i ts Wout D) D σ H) := by
  refine ⟨fun pins s σ H D I h => wpAny_Try_except ?_⟩
  have ok := I.ok
  have frames : X.A.frames = some (X.env :: X.outer) := ok.frames.trans (congrArg some hs)
  refine wpAny_mono ((hb (wKeep X.K c i ts Wout D) (X.pn ++ pins) (fun e t1 => wpAny (model X.prog X.w) X.A (noteFrame e X.env) (fun _ t2 => wpAny (model X.prog X.w) X.A (setFlight e none) (fun _ t3 =>
      wpAny (model X.prog X.w) X.A (handleBy e X.env [.ExceptHandler (some (.Name x np)) (some n) (b₀ :: suite) pos2]) (SP X pins D) X.xe t3) X.xe t2) X.xe t1)
      (fun e s2 air => ?_) PassesOwn.looking).run [] s σ H D (I.toTry _) h) (fun fl s2 done => ?_) fun _ _ z => z
  · obtain ⟨a, B, sI, q0, σ1, H1, cls, d, rfl, J0, ground, upS, sky0, na, eos, ebare, b, eb, no, yes⟩ := air
    have J : Inv X pins σ1 H1 sI := J0.ofTry ok
    refine Sky.land Zc.steady frames hf (hs ▸ sky0 : Sky B (X.env :: X.outer) a (Zc cls d) X.env.locals s2.heap) fun g fly gUp => ?_
    obtain ⟨oe, vs, ea, za, da⟩ := fly.there
    have nfr := not_frame fly.2.2.1 ea da
    have nB : B.get? a = none := fly.2.1
    have nI : sI.heap.get? a = none := by
      cases z : sI.heap.get? a with
      | none => rfl
      | some o => exact absurd ((ground a o z (by rw [hs]; exact nfr)).symm.trans nB) (by simp)
    have n0 : X.s_0.heap.get? a = none := by
      cases z : X.s_0.heap.get? a with
      | none => rfl
      | some o =>
        obtain ⟨o2, z2⟩ := J.base.there a o z (by rw [hex]; simp)
        rw [nI] at z2
        cases z2
    have nP : ∀ p ∈ X.pn ++ pins, p.1 ≠ a := fun p hp z => by
      have := (J.pin p hp).1
      rw [z, nI] at this
      cases this
    have nL : a ≠ X.env.locals := fun z => nfr (List.mem_filterMap.mpr ⟨X.env, List.mem_cons_self, by rw [hf, z]⟩)
    have nF : a ∉ X.fs := fun hm => nfr (let ⟨e, he, q⟩ := List.mem_filterMap.mp hm; List.mem_filterMap.mpr ⟨e, List.mem_cons_of_mem _ he, q⟩)
    have Jg : Inv X pins σ1 H1 { s2 with heap := g } := J.landed ground fly.1 (upS.trans gUp) eos ebare
    have S := Jg.suite ea da na nL nF
    refine wpAny_handleBy_cons (codeAny_handlers_test ?_) (by intro q; cases q)
    have look := PySem.W.exm_one (M := model X.prog X.w) Jg.kIn (show PySem.W.Looks (model X.prog X.w) g (typeOf (.ref a)) cls from fun _ _ _ _ k q => wpAny_typeOf_ref (k _ _ ea) (by rw [za.1]; exact q)) eb
    have named : ∀ {Q : Value → Shared → Prop} {E : Value → Shared → Prop}, Q c { s2 with heap := g } → wpAny (model X.prog X.w) (X.A.mark (some (.ref a))) (eval (.Name x np) X.env) Q E { s2 with heap := g } := fun q => by
      obtain ⟨h1, h2, h3 | ⟨h3, h4, h5⟩⟩ := hc
      · exact ld_glob (X := X.suite a ((a, oe) :: (X.pn ++ pins))) S h1 h3 q h2
      · exact ld_blt (X := X.suite a ((a, oe) :: (X.pn ++ pins))) S h1 h3 h4 q h5 h2
    refine named (look.here ?_)
    cases b with
    | false =>
      refine (show wpAny _ X.A (handleBy (.ref a) X.env []) _ _ _ from wpAny_handleBy_nil ?_)
      obtain ⟨_, _, _, o2, v2, T, oT, t2, e2, _, d2, f1, _⟩ := id fly
      unfold PySem.passOn
      refine wpAny_bind (wpAny_field e2 d2 f1 ?_)
      rw [if_neg (show ¬ ((Value.ref T == Value.none) = true) by simp)]
      have out : wpAny (model X.prog X.w) X.A (setFlight (.ref a) X.env.frame) (fun _ t4 => wpAny (model X.prog X.w) X.A (throw (.ref a) : Sem Flow) (SP X pins D) X.xe t4) X.xe { s2 with heap := g } := by
        rw [hf]
        exact HandSPX.setFlight_upZ fly fun g2 held up2 => wpAny_throw (tk _ _ ⟨a, B, sI, pins, σ1, H1, cls, d, rfl, J, ground, (upS.trans gUp).trans up2, .inr (.inr (by rw [hs]; exact held)), na, eos, ebare, no rfl⟩)
      first | exact wpAny_bind (wpAny_pure (wpAny_bind out)) | exact wpAny_bind out
    | true =>
      refine codeAny_handlers_suite_as (HandSPX.lands_againZ fly fun g2 fly2 up2 => ?_)
      obtain ⟨o2, v2, ea2, za2, da2⟩ := fly2.there
      have S2 := (J.landed (s' := { s2 with heap := g2 }) ground fly2.1 ((upS.trans gUp).trans up2) eos ebare).suite ea2 da2 na nL nF
      refine store_ok (X := X.suite a ((a, o2) :: (X.pn ++ pins))) (v := .ref a) S2 hN hi (.inl hln) rfl (fun s3 S3 => ?_) (.inr hln)
      refine wpAny_mono ((hsu a o2 cls d (X.pn ++ pins) za2 ⟨_, da2⟩).run [] s3 _ H1 _ S3 (yes rfl a na)) (fun fl s4 z => ?_) fun _ _ z => False.elim z
      have lose : ∀ {σ4 : L2.St} {H4 : Hp} {Q : Shared → Prop}, Inv (X.suite a ((a, o2) :: (X.pn ++ pins))) [] σ4 H4 s4 → (∀ s5, Inv X pins (σ4.set i none) H4 s5 → Q s5) →
          wpAny (model X.prog X.w) X.A (do bindName X.env n .none; unbindBehindTheSuite X.env n pos2) (fun _ s5 => Q s5) X.xe s4 := fun S4 hq => gone_ok (S4.unsuite ok) hN hi hln hq
      have keep : ∀ {σ4 : L2.St} {H4 : Hp} {Q : Shared → Prop}, Inv (X.suite a ((a, o2) :: (X.pn ++ pins))) [] σ4 H4 s4 → (H4 a = none → ∀ s5, Inv X pins (σ4.set i none) (upd H4 a (Exn cls d a)) s5 → Q s5) →
          wpAny (model X.prog X.w) X.A (do bindName X.env n .none; unbindBehindTheSuite X.env n pos2) (fun _ s5 => Q s5) X.xe s4 := fun {σ4 H4 Q} S4 hq => by
        obtain ⟨p1, p2, _⟩ := S4.pin (a, o2) (List.mem_append_left _ List.mem_cons_self)
        exact gone_ok (Inv.track (o := Exn cls d a) (S4.unsuite ok) p1 da2 p2 n0 nL nP (exn_ok p1 za2 da2)) hN hi hln (hq p2)
      cases fl with
      | next => obtain ⟨_, _, S4, q4⟩ := z; exact keep S4 fun n4 _ J5 => ⟨_, _, J5, q4 n4⟩
      | brk => obtain ⟨_, _, S4, q4⟩ := z; exact lose S4 fun _ J5 => ⟨_, _, J5, q4⟩
      | cont => obtain ⟨_, _, S4, q4⟩ := z; exact keep S4 fun n4 _ J5 => ⟨_, _, J5, q4 n4⟩
      | ret v => obtain ⟨_, _, _, S4, r4, q4⟩ := z; exact lose S4 fun _ J5 => ⟨_, _, _, J5, r4, q4⟩
  · cases fl with
    | next => obtain ⟨σ1, H1, J, q⟩ := done; exact wpAny_execs_nil ⟨σ1, H1, J.ofTry ok, q⟩
    | brk => obtain ⟨σ1, H1, J, q⟩ := done; exact ⟨σ1, H1, J.ofTry ok, q⟩
    | cont => obtain ⟨σ1, H1, J, q⟩ := done; exact ⟨σ1, H1, J.ofTry ok, q⟩
    | ret u => obtain ⟨v, σ1, H1, J, r, q⟩ := done; exact ⟨v, σ1, H1, J.ofTry ok, r, q⟩
end
end GL

namespace GL
open PySem PySem.Spec PyProof.Rows L2
/-! ### the errors of a package: each made with its value, by an __init__ that keeps it in the field -/
/-- what the written part tells of the class x at C, and of its __init__ at fI -/
structure Err (K : PySem.W.Frag) (mg : Str → Option Value) (x : Str) (C fI : Addr) : Prop where
  g : mg x = some (.ref C)
  o : OexC K C
  iC : PySem.W.findIn K (.ref C) "__init__" = some (some (.ref fI))
  tI : PySem.W.typeIn K (.ref fI) = some (.type "function")
  nv : PySem.W.findIn K (.ref C) "value" = some none
  ga : PySem.W.findIn K (.ref C) "__getattribute__" = some (some (.builtin "BaseException.__getattribute__"))
  gg : PySem.W.findIn K (.ref C) "__getattr__" = some none
  hd : PySem.W.hasDictIn K C = true
  ha : PySem.W.findIn K (.ref C) "__class__" = some (some (.builtin "object.__class__"))
  hn : PySem.W.specialIn K (.builtin "object.__class__") "__get__" = some (some (.builtin "getset_descriptor.__get__"))
  ht : PySem.W.takesIn K (.builtin "object.__class__") = some true
  hm : PySem.W.mroIn K C (.type "object") = some true
theorem Err.cl {K : PySem.W.Frag} {mg : Str → Option Value} {x : Str} {C fI : Addr} (T : Err K mg x C fI) : (PySem.W.clsIn K C).isSome = true := by
  obtain ⟨cd, hc, _⟩ := PySem.W.any_some T.hd
  rw [hc]
  rfl
section
variable {X : Cx} {pins : List (Addr × Obj)} {σ : L2.St} {H : Hp} {s : Shared}
theorem exn_at {a C : Addr} {d : Option Addr} (I : Inv X pins σ H s) (h : H a = some (Exn (.ref C) d a)) : ∃ (oe : Obj) (vs : Array Value), s.heap.get? a = some oe ∧ Zc (.ref C) d oe ∧ oe.data = .fields vs := (I.hok a _ h).1
/-- isinstance(e, c), e a kept exception -/
def rIsX (K : PySem.W.Frag) (mg : Str → Option Value) : List V → Hp → VK → Prop := fun xs H Q => ∃ (a C fI : Addr) (x : Str) (d : Option Addr) (c : V) (cv : Value) (b : Bool), xs = [.ref a, c] ∧ H a = some (Exn (.ref C) d a) ∧ (∃ dd fs, d = some dd ∧ H dd = some (.xd fs)) ∧ Err K mg x C fI ∧ (∀ u, RelV c u → u = cv) ∧ PySem.W.kitOne K (.ref C) cv = some b ∧ Q (.bl b) H
theorem call_isX : CallR X (.builtin "isinstance") (rIsX X.K X.mg) := by
  intro pins s σ H xs us Q I r h
  obtain ⟨a, C, fI, x, d, c, cv, b, rfl, ea, ⟨dd, fs, ed, hdd⟩, T, hc, e, q⟩ := h
  obtain ⟨u1, u2, rfl, rx, rt⟩ := vals2 r
  cases rx
  have ec := hc _ rt
  subst ec ed
  obtain ⟨oe, vs, he, hz, hv⟩ := exn_at I ea
  have hx : ObjOk X.prog X.w H s.heap dd (.xd fs) := I.hok dd _ hdd
  obtain ⟨mA, hns, hr⟩ := hx
  obtain ⟨od, ho, hl⟩ := lookIn_ns hns
  have J : PySem.W.InstAt s.heap a oe C (some od) := ⟨he, hz.1, by unfold PySem.W.notCls; rw [hv] <;> rfl, by rw [hz.2]; exact ho⟩
  exact PySem.W.kia_one (PySem.W.kitx_exc T.cl T.ga T.gg T.o.exC T.ha T.hn T.ht T.hm) I.kIn J e (fun z => nomatch z) fun tk => ⟨.bl b, H, I.kept (t' := tk) fun _ _ z => z, rfl, q⟩
/-- e.value, e a kept exception -/
def tValX (K : PySem.W.Frag) (mg : Str → Option Value) (te : TE) : TE := fun σ H Q => te σ H fun x H1 => ∃ (a C fI dd : Addr) (n : Str) (v : V), x = .ref a ∧ Err K mg n C fI ∧ H1 a = some (Exn (.ref C) (some dd) a) ∧ H1 dd = some (.xd [("value", v)]) ∧ Q v H1
theorem pe_valX {e : Expr} {te : TE} {pos : Pos} (he : PE X e te) (hb : attributeBase e "value" X.env (eval e X.env) = eval e X.env := by rfl) : PE X (.Attribute e "value" pos) (tValX X.K X.mg te) := by
  refine ⟨fun pins s σ H Q I h => attr_of hb (thn (he.run pins s σ H _ I h) fun u s1 ⟨y, H1, I1, rx, a, C, fI, dd, n, v, ey, T, ea, ed, q⟩ => ?_)⟩
  subst ey
  obtain rfl : u = Value.ref a := rx
  obtain ⟨oe, vs, ha, hz, hv⟩ := exn_at I1 ea
  obtain ⟨mA, hns, hr⟩ := (show ObjOk X.prog X.w H1 s1.heap dd (.xd [("value", v)]) from I1.hok dd _ ed)
  obtain ⟨od, ho, hl⟩ := lookIn_ns hns
  have lk : List.lookup ("value" : Str) [(("value" : Str), v)] = some v := by simp [List.lookup]
  obtain ⟨w, hw, rw'⟩ := RelO.some_of (v := v) (o := mA "value") (by rw [← lk]; exact hr "value")
  have J : PySem.W.InstAt s1.heap a oe C (some od) := ⟨ha, hz.1, by unfold PySem.W.notCls; rw [hv] <;> rfl, by rw [hz.2]; exact ho⟩
  exact HandSPX.exc_get I1.kIn J T.ga T.gg T.o.exC (PySem.W.findObj_own T.hd T.nv rfl (by rw [hl, hw])) (handed_of rw') ⟨v, H1, I1.tok _, rw', q⟩
end
/-! ### made and raised -/
/-- __init__(self, value): the value stands in the field -/
def spInit (K : PySem.W.Frag) : Sp := fun vs H Q _ => ∃ (a C : Addr) (v : V), vs = [.ref a, v] ∧ OexC K C ∧ PySem.W.findIn K (.ref C) "value" = some none ∧ H a = some (exo a C none) ∧ ∀ dx, H dx = none → dx ≠ a → Q .non (upd (upd H dx (exd dx [("value", v)])) a (exo a C (some dx)))
/-- the reading of x(v), once v is told: the exception's dict is new and has the value -/
theorem err_by {K : PySem.W.Frag} {mg : Str → Option Value} {x : Str} {C fI : Addr} (T : Err K mg x C fI) {v : V} {H1 : Hp} {Q : XK} (h : ∀ d, H1 d = none → Q (.ref C) (some d) (upd H1 d (.xd [("value", v)]))) :
    [v].length ≤ 1000 ∧ ∀ a, H1 a = none → spInit K (.ref a :: ([v] ++ [])) (upd H1 a (exo a C none)) (fun u H2 => u = .non ∧ ∃ (d : Addr) (fs : List (Str × V)), H2 a = some (exo a C (some d)) ∧ H2 d = some (exd d fs) ∧ H1 d = none ∧ Q (.ref C) (some d) (upd (del H2 a) d (.xd fs))) (fun _ _ _ => False) := by
  refine ⟨by simp, fun a ha => ⟨a, C, v, rfl, T.o, T.nv, upd_same, fun dx n ne => ⟨rfl, dx, _, upd_same, by rw [upd_ne ne, upd_same], ?_, ?_⟩⟩⟩
  · rwa [upd_ne ne] at n
  · have e : upd (del (upd (upd (upd H1 a (exo a C none)) dx (exd dx [("value", v)])) a (exo a C (some dx))) a) dx (.xd [("value", v)]) = upd H1 dx (.xd [("value", v)]) := by
      funext b
      by_cases b1 : b = dx
      · rw [b1, upd_same, upd_same]
      · rw [upd_ne b1, upd_ne b1]
        by_cases b2 : b = a
        · rw [b2, del_same, ha]
        · rw [del_ne b2, upd_ne b2, upd_ne b1, upd_ne b2]
    rw [e]
    rw [upd_ne ne] at n
    exact h dx n
/-! ### the text of each __init__ -/
def iniA (p1 p2 p3 : Pos) : Arguments := { posonlyargs := [], args := [{ arg := "self", annotation := none, pos := p1 }, { arg := "value", annotation := none, pos := p2 }], vararg := none, kwonlyargs := [], kw_defaults := [], kwarg := none, defaults := [.Constant .none 0 p3] }
def iniB (q1 q2 q3 q4 : Pos) : List Stmt := [.Assign [.Attribute (.Name "self" q1) "value" q2] (.Name "value" q3) q4]
def iniS : Scope := { kind := .function, names := [(PySem.Str.ofString "self", .local), (PySem.Str.ofString "value", .local)], isGenerator := false, isCoroutine := false, more := [] }
theorem scIni : FnScope ["self", "value"] ["self", "value"] iniS := ⟨rfl, rfl, rfl, by decide +kernel, rfl, by decide +kernel, by decide +kernel⟩
section
variable {P : Program} {w : World} {K : PySem.W.Frag} {mg : Str → Option Value} {base : Heap}
/-- the __init__ at fI, ready to be called with a value -/
def Ini (P : Program) (w : World) (K : PySem.W.Frag) (mg : Str → Option Value) (base : Heap) (fI : Addr) : Prop := ∃ fd, FnOk P w K mg base CX0 1 fI fd ["self", "value"] (spInit K) ∧ Binds K fd ["self", "value"] []
theorem ini_ok {qual : Str} {p1 p2 p3 q1 q2 q3 q4 : Pos} {fI : Addr} {fd : FuncData} (F : FunD K "__init__" qual (iniA p1 p2 p3) (iniB q1 q2 q3 q4) iniS [.non] [] fI fd) : Ini P w K mg base fI := by
  refine ⟨fd, F.ok scIni (fun vs H Q E h => ?_) (fun cdv A outer s H vs Q E hr h => ?_), ?_⟩
  · obtain ⟨a, C, v, rfl, _⟩ := h
    rfl
  · obtain ⟨a, C, v, rfl, o, nv, ea, q⟩ := h
    refine ⟨_, pss_one (ps_ost (pv 0) (pv 1)), ?_⟩
    exact ⟨_, rfl, _, rfl, a, C, rfl, o, nv, .inl ⟨ea, fun dx n ne => q dx n ne⟩⟩
  · obtain ⟨ds, hv, b⟩ := F.binds1 (ps := ["self", "value"]) 2 1 (by simp) rfl fun T kV doc pm an cdv ct us its l1 l2 => by
      match us, its, l1, l2 with
      | [_, _], [_], _, _ => exact ⟨_, rfl, rfl⟩
    cases hv
    exact b
end
section
variable {X : Cx}
theorem pmk_err {x : Str} {C fI : Addr} {e : Expr} {ta : TA} {p pos : Pos} (T : Err X.K X.mg x C fI) (U : Ini X.prog X.w X.K X.mg X.base fI) (hr : Room 2 X.A) (hg : Gl X x) (ha : PA X [e] ta) (hdb : (x == ("__debug__" : Str)) = false := by decide)
    (he : starEach [e] X.env = (false, eval e X.env) :: starEach [] X.env := by rfl) : PMk X (.Call (.Name x p) [e] [] pos) (tMkO C (spInit X.K) [] ta) := by
  obtain ⟨fd, F, b⟩ := U
  exact pmk_oex T.o T.iC T.tI F hr b .nil pass0 hg T.g ha hdb he
end
end GL

namespace GL
open PySem PySem.Spec PyProof.Rows L2
/-! ### defs that may raise, ready to be called -/
structure UseX (P : Program) (w : World) (K : PySem.W.Frag) (mg : Str → Option Value) (base : Heap) (x : Str) (ps : List Str) (sp : Sp) (k : Nat) : Prop where
  ex : ∃ f fd, FnOk P w K mg base (L2.CX P w) k f fd ps sp ∧ mg x = some (.ref f) ∧ PySem.W.keepIn K (.ref f) = true ∧ Binds K fd ps []
section
variable {X : Cx} {ps : List Str} {sp : Sp} {x : Str} {e : Expr} {es : List Expr} {t : TA} {p pos : Pos} {k : Nat} {E : XK} {W : WX}
/-- a call of it where what it raises leaves the caller, too -/
theorem pe_useX (U : UseX X.prog X.w X.K X.mg X.base x ps sp k) (hr : Room k X.A) (hx : Takes X fun cls d _ H => E cls d H) (hg : Gl X x) (ha : PA X (e :: es) t)
    (hdb : (x == ("__debug__" : Str)) = false := by decide) (he : starEach (e :: es) X.env = (false, eval e X.env) :: starEach es X.env := by rfl) (hpl : (backTo pos (starEach es X.env)).any (·.1) = false := by rfl) :
    PE X (.Call (.Name x p) (e :: es) [] pos) (tCall sp [] E t) := by
  obtain ⟨f, fd, F, hm, hk, hb⟩ := U.ex
  exact pe_call F hr hg hm hk hb .nil (passes_call hx fun _ _ _ _ z => z) ha hdb he hpl
/-- a call of it within a try -/
theorem pe_useS (U : UseX X.prog X.w X.K X.mg X.base x ps sp k) (hr : Room k X.A) (tk : Takes X W) (hg : Gl X x) (ha : PA X (e :: es) t)
    (hdb : (x == ("__debug__" : Str)) = false := by decide) (he : starEach (e :: es) X.env = (false, eval e X.env) :: starEach es X.env := by rfl) (hpl : (backTo pos (starEach es X.env)).any (·.1) = false := by rfl) :
    PE X (.Call (.Name x p) (e :: es) [] pos) (tCallS sp (fun σ => WE W σ) t) := by
  obtain ⟨f, fd, F, hm, hk, hb⟩ := U.ex
  exact pe_callS F hr hg hm hk hb (fun σ => passAt tk σ) ha hdb he hpl
/-- a def's value, by its address: what it promises -/
structure HeldX (P : Program) (w : World) (K : PySem.W.Frag) (mg : Str → Option Value) (base : Heap) (k : Nat) (f : Addr) (sp : Sp) : Prop where
  ex : ∃ (fd : FuncData) (ps : List Str), FnOk P w K mg base (L2.CX P w) k f fd ps sp ∧ PySem.W.keepIn K (.ref f) = true ∧ Binds K fd ps []
theorem UseX.held {P : Program} {w : World} {K : PySem.W.Frag} {mg : Str → Option Value} {base : Heap} (U : UseX P w K mg base x ps sp k) : ∃ f, mg x = some (.ref f) ∧ HeldX P w K mg base k f sp := by
  obtain ⟨f, fd, F, hm, hk, hb⟩ := U.ex
  exact ⟨f, hm, ⟨fd, ps, F, hk, hb⟩⟩
/-- f(e, ..), f any expression that gives a def: its promise goes with the address -/
def tCallV (P : Program) (w : World) (K : PySem.W.Frag) (mg : Str → Option Value) (base : Heap) (k : Nat) (E : XK) (tf : TE) (t : TA) : TE := fun σ H Q => tf σ H fun x H1 => ∃ (f : Addr) (sp : Sp), x = .ref f ∧ HeldX P w K mg base k f sp ∧ t σ H1 fun vs H2 => sp vs H2 Q E
theorem pe_callV {fe : Expr} {tf : TE} (hr : Room k X.A) (hx : Takes X fun cls d _ H => E cls d H) (hf : PE X fe tf) (ha : PA X (e :: es) t)
    (hc : eval (.Call fe (e :: es) [] pos) X.env = (do callWith pos (← eval fe X.env) [] (backTo pos (starEach (e :: es) X.env)) (backToKw pos (keywordEach [] X.env))) := by rfl)
    (he : starEach (e :: es) X.env = (false, eval e X.env) :: starEach es X.env := by rfl) (hpl : (backTo pos (starEach es X.env)).any (·.1) = false := by rfl) :
    PE X (.Call fe (e :: es) [] pos) (tCallV X.prog X.w X.K X.mg X.base k E tf t) := by
  refine ⟨fun pins s σ H Q I h => Call_ (thn (hf.run pins s σ H _ I h) fun u s1 ⟨y, H1, I1, r1, f, sp, ey, D, q1⟩ => ?_) hc⟩
  subst ey
  cases r1
  obtain ⟨fd, ps, F, hk, hb⟩ := D.ex
  refine PySem.W.callWith_K (h₀ := X.base) I.ok.mod.kin hk (thn (ha.run pos pins s1 σ H1 _ I1 q1) fun us s2 ⟨vs, H2, I2, r, q⟩ => ⟨I2.kIn, ?_⟩) he hpl
  exact run_fn F hr hb .nil (passes_call hx fun _ _ _ _ z => z) I2 r (by rw [List.append_nil]; exact q)
end
end GL

namespace GL
open PySem PySem.Spec PyProof.Rows L2
/-! ### checks that refuse: what is told of every value -/
def kindsD : PyData → Bool
  | .int k => decide (2 ≤ k) && decide (k ≤ 9)
  | _ => false
theorem kinds_of {d : PyData} (h : kindsD d = true) : ∃ k, d = .int k ∧ 2 ≤ k ∧ k ≤ 9 := by
  cases d with
  | int k =>
    obtain ⟨a, b⟩ := Bool.and_eq_true_iff.mp h
    exact ⟨k, rfl, of_decide_eq_true a, of_decide_eq_true b⟩
  | _ => cases h
def ascD : List PyData → Bool
  | .int a :: .int b :: r => decide (a < b) && ascD (.int b :: r)
  | _ => true
/-- a lot of n people -/
def lotD (n : Int) : PyData → Bool
  | .list ds => (decide (1 ≤ (ds.length : Int)) && decide ((ds.length : Int) ≤ n)) && (ds.all (below n) && ascD ds)
  | _ => false
def intOf : PyData → Int
  | .int i => i
  | _ => 0
/-- all n people, each once -/
def orderD (n : Nat) : PyData → Bool
  | .list ds => ds.all (below n) && (ds.map intOf).isPerm (nums (List.range n))
  | _ => false
/-- an error of the class n leaves the def, with v in its field -/
def Rf (er : Str → Addr) (n : Str) (v : V) (H : Hp) (E : XK) : Prop := ∀ (H' : Hp) (e : Addr), Same H H' → H e = none → H' e = some (.xd [("value", v)]) → E (.ref (er n)) (some e) H'
theorem Rf.raise {er : Str → Addr} {n : Str} {v : V} {H H1 : Hp} {E : XK} (h : Rf er n v H E) (s : Same H H1) (d : Addr) (hd : H1 d = none) : E (.ref (er n)) (some d) (upd H1 d (.xd [("value", v)])) :=
  h _ d (fun b o e => by rw [upd_ne (ne_of_none (s b o e) hd)]; exact s b o e) (s.free hd) upd_same
theorem Rf.later {er : Str → Addr} {n : Str} {v : V} {H H1 : Hp} {E : XK} (h : Rf er n v H E) (s : Same H H1) : Rf er n v H1 E := fun H' e s' f x => h H' e (s.trans s') (s.free f) x
/-- the class x, with its facts -/
def ErrU (P : Program) (w : World) (K : PySem.W.Frag) (mg : Str → Option Value) (base : Heap) (er : Str → Addr) (x : Str) : Prop := ∃ fI, Err K mg x (er x) fI ∧ Ini P w K mg base fI
def spKindsA (K : PySem.W.Frag) : Sp := fun vs H Q _ => ∃ x d, vs = [x] ∧ Dt K H x d ∧ Q (.bl (kindsD d)) H
def spKnd (K : PySem.W.Frag) (er : Str → Addr) : Sp := fun vs H Q E => ∃ x d, vs = [x] ∧ Dt K H x d ∧ (kindsD d = true → Q .non H) ∧ (kindsD d = false → Rf er "InvalidNumber" x H E)
/-- kinds, then a company of them -/
def spCom (K : PySem.W.Frag) (er : Str → Addr) : Sp := fun vs H Q E => ∃ x y dk dc, vs = [x, y] ∧ Dt K H x dk ∧ Dt K H y dc ∧ (kindsD dk = false → Rf er "InvalidNumber" x H E) ∧
  ∀ k, dk = .int k → kindsD dk = true → (compOk k dc = false → Rf er "InvalidCompany" y H E) ∧ (compOk k dc = true → ∀ H', Same H H' → Q .non H')
def spComs (K : PySem.W.Frag) (er : Str → Addr) : Sp := fun vs H Q E => ∃ x y z dk dc dz, vs = [x, y, z] ∧ Dt K H x dk ∧ Dt K H y dc ∧ Dt K H z dz ∧ (kindsD dk = false → Rf er "InvalidNumber" x H E) ∧
  ∀ k, dk = .int k → kindsD dk = true → (compOk k dc = false → Rf er "InvalidCompany" y H E) ∧ (compOk k dc = true → (compOk k dz = false → Rf er "InvalidCompany" z H E) ∧
    ∀ ds es, dc = .list ds → dz = .list es → compOk k dz = true → (ds.length ≠ es.length → Rf er "Unlike" z H E) ∧ (ds.length = es.length → ∀ H', Same H H' → Q .non H'))
def spCou (K : PySem.W.Frag) (er : Str → Addr) : Sp := fun vs H Q E => ∃ (c : Addr) (xs : List V) (z : V) (dz : PyData), vs = [.ref c, z] ∧ H c = some (.lst xs) ∧ Dt K H z dz ∧ (cplD xs.length dz = true → Q .non H) ∧ (cplD xs.length dz = false → Rf er "InvalidCouple" z H E)
def spLotA (K : PySem.W.Frag) : Sp := fun vs H Q _ => ∃ (n : Nat) (x : V) (d : PyData), vs = [.int n, x] ∧ n ≤ 100 ∧ Dt K H x d ∧ ∀ H', Same H H' → Q (.bl (lotD n d)) H'
def spLotC (K : PySem.W.Frag) (er : Str → Addr) : Sp := fun vs H Q E => ∃ (c : Addr) (xs : List V) (z : V) (dz : PyData), vs = [.ref c, z] ∧ H c = some (.lst xs) ∧ xs.length ≤ 100 ∧ Dt K H z dz ∧ (lotD xs.length dz = true → ∀ H', Same H H' → Q .non H') ∧ (lotD xs.length dz = false → Rf er "InvalidLot" z H E)
def spOrderA (K : PySem.W.Frag) : Sp := fun vs H Q _ => ∃ (n : Nat) (x : V) (d : PyData), vs = [.int n, x] ∧ n ≤ 100 ∧ Dt K H x d ∧ (∀ ds, d = .list ds → ds.length ≤ 1000) ∧ ∀ H', Same H H' → Q (.bl (orderD n d)) H'
end GL

namespace K05
open PySem PySem.Spec PyProof.Rows
open L2
open GL
def topS (i : Nat) : Stmt := PySem.Challenge.pw_twinties_k05_companies_and_deeds_refused.main.body.getD i (.Pass ⟨0, 0, 0, 0⟩)
section
variable {P : Program} {w : World} {K : PySem.W.Frag} {mg : Str → Option Value} {base : Heap}
abbrev sHash : Stmt := topS 50
abbrev sRandom : Stmt := topS 51
abbrev sCell : Stmt := topS 52
abbrev sGen : Stmt := topS 53
theorem scHash : FnScope ["_law_seed", "_law_index", "_law_mixed"] ["_law_seed", "_law_index"] (defScope sHash) := ⟨rfl, rfl, rfl, by decide +kernel, rfl, by decide +kernel, by decide +kernel⟩
theorem ok_hash {f : Addr} {fd : FuncData} (F : Fun K "_law_hash" "_law_hash" sHash f fd) (T : Bi mg) : FnOk P w K mg base CX0 1 f fd ["_law_seed", "_law_index"] spHash := by
  refine F.ok scHash (fun vs H Q E h => ?_) (fun cdv A outer s H vs Q E hr h => ?_)
  · obtain ⟨b, c, rfl, _⟩ := h
    rfl
  · obtain ⟨b, c, rfl, hb0, hb1, hc0, hc1, q⟩ := h
    refine ⟨_, pss_cons (ps_set (i := 2) scHash.nd rfl (Or.inl rfl) (pe_op op_mod (pe_callTy call_int1 (by rfl) T.int PyProof.Rows.boot_int (pa_cons
        (pe_op op_add (pe_op op_add (pe_op op_add (pe_op op_mul (pv 0) pe_int) (pe_op op_mul (pe_op op_mul pe_int (pv 1)) (pv 1))) (pe_op op_mul pe_int (pv 1))) pe_int) pa_nil)) pe_int))
      (pss_cons (ps_set (i := 2) scHash.nd rfl (Or.inl rfl) (pe_op op_mod (pe_callTy call_int1 (by rfl) T.int PyProof.Rows.boot_int (pa_cons
        (pe_op op_add (pe_op op_add (pe_op op_mul (pv 2) (pv 2)) (pe_op op_mul pe_int (pv 1))) pe_int) pa_nil)) pe_int))
      (pss_one (ps_ret (pe_op op_mod (pe_callTy call_int1 (by rfl) T.int PyProof.Rows.boot_int (pa_cons (pe_op op_mul (pv 2) pe_int) pa_nil)) pe_int)))), ?_⟩
    refine ⟨_, rfl, _, _, rfl, rfl, .inl ⟨by omega, by omega⟩, _, rfl, _, _, rfl, rfl, .inl ⟨by omega, by omega⟩, _, rfl, _, _, rfl, rfl, .inr ⟨by omega, by omega⟩, _, _, rfl, rfl, _, rfl, _, _, rfl, rfl, .inl ⟨by omega, by omega⟩, _, _, rfl, rfl, _, _, rfl, rfl,
      .inl ⟨_, rfl, _, _, rfl, rfl, (by show (0 : Int) < 2147483629; decide), ?_⟩⟩
    generalize hm : (b * 1140671 + 27644437 * c * c + 131 * c + 19) % 2147483629 = m
    have m0 : 0 ≤ m := by rw [← hm]; exact Int.emod_nonneg _ (by decide)
    have m1 : m < 2147483629 := by rw [← hm]; exact Int.emod_lt_of_pos _ (by decide)
    refine ⟨_, rfl, _, rfl, _, _, rfl, rfl, .inl ⟨by omega, by omega⟩, _, rfl, _, _, rfl, rfl, .inl ⟨by omega, by omega⟩, _, _, rfl, rfl, _, _, rfl, rfl,
      .inl ⟨_, rfl, _, _, rfl, rfl, (by show (0 : Int) < 2147483587; decide), ?_⟩⟩
    generalize hn : (m * m + 62089 * c + 32416187) % 2147483587 = n
    have n0 : 0 ≤ n := by rw [← hn]; exact Int.emod_nonneg _ (by decide)
    have n1 : n < 2147483587 := by rw [← hn]; exact Int.emod_lt_of_pos _ (by decide)
    refine ⟨_, rfl, _, _, rfl, rfl, .inl ⟨by omega, by omega⟩, .inl ⟨_, rfl, _, _, rfl, rfl, (by show (0 : Int) < 2147483647; decide), ?_⟩⟩
    exact q _ (Int.emod_nonneg _ (by decide)) (Int.emod_lt_of_pos _ (by decide))
theorem scRandom : FnScope ["_law_generator_here", "_law_bound", "_law_drawn", "_law_turn"] ["_law_generator_here", "_law_bound"] (defScope sRandom) := ⟨rfl, rfl, rfl, by decide +kernel, rfl, by decide +kernel, by decide +kernel⟩
theorem ok_random {f : Addr} {fd : FuncData} (F : Fun K "_law_random" "_law_random" sRandom f fd) (T : Bi mg) (UH : Use P w K mg base "_law_hash" ["_law_seed", "_law_index"] spHash 1) : FnOk P w K mg base CX0 2 f fd ["_law_generator_here", "_law_bound"] spRandom := by
  refine F.ok scRandom (fun vs H Q E h => ?_) (fun cdv A outer s H vs Q E hr h => ?_)
  · obtain ⟨g, m, n, rfl, _⟩ := h
    rfl
  · obtain ⟨g, m, n, rfl, m0, m1, G, q⟩ := h
    refine ⟨_, pss_cons (ps_if (pt_cmpR op_gt (pe_ix ix_list (pv 0) pe_int (fun _ _ => rfl)) pe_int (nomark _))
        (pss_cons (ps_set (i := 2) scRandom.nd rfl (Or.inl rfl) (pe_op op_mod (pe_callTy call_int1 (by rfl) T.int PyProof.Rows.boot_int (pa_cons (pe_ix ix_list (pv 0) pe_int (fun _ _ => rfl)) pa_nil)) (pv 1)))
        (pss_cons (ps_asg (pe_op op_fdivW (pe_ix ix_list (pv 0) pe_int (fun _ _ => rfl)) (pv 1)) (pg_sub (pv 0) pe_int set_list))
        (pss_one (ps_ret (pv 2))))) pss_nil)
      (pss_cons (ps_set (i := 2) scRandom.nd rfl (Or.inl rfl) pe_int)
      (pss_cons (ps_for PassesOwn.never rfl (pi_range1 (by rfl) T.range (pa_cons (pe_op op_add pe_int (pe_op op_fdiv (pe_bits (pv 1)) pe_int)) pa_nil)) (pg_name (i := 3) scRandom.nd rfl (Or.inl rfl))
        (pss_cons (ps_asg (pe_op op_add (pe_ix ix_list (pv 0) pe_int (fun _ _ => rfl)) pe_int) (pg_sub (pv 0) pe_int set_list))
        (pss_one (ps_set (i := 2) scRandom.nd rfl (Or.inl rfl) (pe_op op_add (pe_op op_mul (pv 2) pe_int)
          (pe_use UH hr (by rfl) (pa_cons (pe_ix ix_list (pv 0) pe_int (fun _ _ => rfl)) (pa_cons (pe_ix ix_list (pv 0) pe_int (fun _ _ => rfl)) pa_nil))))))))
      (pss_one (ps_ret (pe_op op_mod (pe_callTy call_int1 (by rfl) T.int PyProof.Rows.boot_int (pa_cons (pv 2) pa_nil)) (pv 1)))))), ?_⟩
    obtain ⟨a, b, c, hg, b0, b1, c0, c1⟩ := G
    refine ⟨_, rfl, g, _, _, _, rfl, rfl, SqL.of hg, at_of (j := 0) rfl rfl, _, _, rfl, rfl, _, rfl, ?_⟩
    by_cases ha : 0 < a
    · refine ite2 (fun _ => ?_) (fun z => absurd (decide_eq_true ha) z)
      refine ⟨_, rfl, g, _, _, _, rfl, rfl, SqL.of hg, at_of (j := 0) rfl rfl, .inl ⟨_, rfl, _, rfl, _, _, rfl, rfl, m0, ?_⟩⟩
      refine ⟨_, rfl, g, _, _, _, rfl, rfl, SqL.of hg, at_of (j := 0) rfl rfl, _, rfl, _, _, rfl, rfl, wide_div (b := 120) m0 (by omega) (by decide) (by decide), _, rfl, g, _, _, 0, rfl, rfl, hg, rfl, ?_⟩
      refine ⟨_, rfl, q _ _ (Int.emod_nonneg _ (by omega)) (Int.emod_lt_of_pos _ m0) ⟨_, b, c, upd_same, b0, b1, c0, by omega⟩ But.put⟩
    · refine ite2 (fun z => absurd (of_decide_eq_true z) ha) (fun _ => ?_)
      obtain ⟨u1, u0⟩ := bits_le m0 m1
      generalize hu : (Builtin.Int.intBits m : Int) / 30 = u at u0 u1
      refine ⟨_, rfl, _, rfl, _, _, rfl, rfl, ⟨by decide, by decide⟩, _, _, rfl, rfl, 1 + u, by rw [hu], by omega, by omega,
        for_range (lo := 0) (n := (1 + u).toNat) (fun i σ H' => ∃ (d : Int) (t : Option V) (c' : Int), σ = [some (.ref g), some (.int m), some (.int d), t] ∧ But g H H' ∧ H' g = some (.lst [.int a, .int b, .int c']) ∧ c ≤ c' ∧ c' ≤ c + i)
        ⟨0, none, c, rfl, But.refl, hg, by omega, by omega⟩ ?_ ?_⟩
      · rintro i σ H' hi ⟨d, t, c', rfl, bt, hg', c2, c3⟩
        refine ⟨_, rfl, g, _, _, _, rfl, rfl, SqL.of hg', at_of (j := 2) rfl rfl, _, _, rfl, rfl, _, rfl, g, _, _, 2, rfl, rfl, hg', rfl, ?_⟩
        refine ⟨_, rfl, _, _, rfl, rfl, .inr ⟨by decide, by decide⟩, _, rfl, g, _, _, _, rfl, rfl, SqL.of upd_same, at_of (j := 1) rfl rfl, _, rfl, g, _, _, _, rfl, rfl, SqL.of upd_same, at_of (j := 2) rfl rfl,
          b, c' + 1, rfl, b0, b1, by omega, by omega, fun r r0 r1 => ⟨_, _, rfl, rfl, ?_⟩⟩
        exact ⟨_, _, c' + 1, rfl, bt.trans But.put, upd_same, by omega, by omega⟩
      · rintro σ H' ⟨d, t, c', rfl, bt, hg', c2, c3⟩
        refine ⟨_, rfl, .inl ⟨_, rfl, _, rfl, _, _, rfl, rfl, m0, ?_⟩⟩
        exact q _ _ (Int.emod_nonneg _ (by omega)) (Int.emod_lt_of_pos _ m0) ⟨a, b, c', hg', b0, b1, by omega, by omega⟩ bt
theorem scCell : FnScope ["_law_script", "_law_index"] ["_law_script", "_law_index"] (defScope sCell) := ⟨rfl, rfl, rfl, by decide +kernel, rfl, by decide +kernel, by decide +kernel⟩
theorem ok_cell {f : Addr} {fd : FuncData} (F : Fun K "_law_cell" "_law_cell" sCell f fd) (T : Bi mg) : FnOk P w K mg base CX0 1 f fd ["_law_script", "_law_index"] (spCell K) := by
  refine F.ok scCell (fun vs H Q E h => ?_) (fun cdv A outer s H vs Q E hr h => ?_)
  · obtain ⟨a, ns, i, rfl, _⟩ := h
    rfl
  · obtain ⟨a, ns, i, rfl, hS, q⟩ := h
    refine ⟨_, pss_cons (ps_if (pt_cmpR op_lt (pv 1) (pe_callB call_len_seq (by rfl) T.len PySem.boot_len (pa_cons (pv 0) pa_nil)) (nomark _)) (pss_one (ps_ret (pe_ix ix_list (pv 0) (pv 1) (fun _ _ => rfl)))) pss_nil)
      (pss_one (ps_ret (pe_op op_mod (pe_callB (cr_sum rfl) (by rfl) T.sum (by decide +kernel) (pa_cons (pe_slice sl_list (pv 0) po_none (po_some pe_int)) pa_nil)) pe_int))), ?_⟩
    refine ⟨_, rfl, _, rfl, a, _, rfl, .inl hS, _, _, rfl, rfl, _, rfl, ite2 (fun c => ?_) (fun c => ?_)⟩
    · have hl := of_decide_eq_true c
      rw [List.length_map] at hl
      have hi : i < ns.length := by omega
      exact ⟨_, rfl, _, rfl, a, _, _, _, rfl, rfl, hS, at_of (j := i) rfl (by rw [List.getElem?_map, List.getElem?_eq_getElem hi]; rfl), q _ _ (Same.refl _)⟩
    · refine ⟨_, rfl, 1, rfl, a, _, rfl, hS, fun c nc => ?_⟩
      obtain ⟨l, el, _⟩ := cut_ints ns none (some 1)
      refine ⟨c, l, rfl, by rw [← el]; exact SqL.of upd_same, _, _, rfl, rfl, (by show (0 : Int) < 1000003; decide), q _ _ (same_new nc)⟩
theorem scGen : FnScope ["_law_script", "_law_index", "_law_seed"] ["_law_script", "_law_index"] (defScope sGen) := ⟨rfl, rfl, rfl, by decide +kernel, rfl, by decide +kernel, by decide +kernel⟩
theorem ok_gen {f : Addr} {fd : FuncData} (F : Fun K "_law_generator" "_law_generator" sGen f fd) (T : Bi mg) (U : Use P w K mg base "_law_cell" ["_law_script", "_law_index"] (spCell K) 1) : FnOk P w K mg base CX0 2 f fd ["_law_script", "_law_index"] (spGen K) := by
  refine F.ok scGen (fun vs H Q E h => ?_) (fun cdv A outer s H vs Q E hr h => ?_)
  · obtain ⟨a, ns, i, rfl, _⟩ := h
    rfl
  · obtain ⟨a, ns, i, rfl, hi, hS, q⟩ := h
    refine ⟨_, pss_cons (ps_set (i := 2) scGen.nd rfl (Or.inl rfl) (pe_use U hr (by rfl) (pa_cons (pv 0) (pa_cons (pv 1) pa_nil))))
      (pss_one (ps_ret (pe_lst (pa_cons (pe_op op_mod (pe_callTy call_int1 (by rfl) T.int PyProof.Rows.boot_int (pa_cons (pe_callB (call_max2 rfl) (by rfl) T.max (by decide +kernel) (pa_cons (pe_op op_sub (pv 2) (pe_op op_pow pe_int pe_int)) (pa_cons pe_int pa_nil))) pa_nil)) (pe_op op_powW (pe_op op_pow pe_int pe_int) pe_int))
        (pa_cons (pe_op op_mod (pe_callTy call_int1 (by rfl) T.int PyProof.Rows.boot_int (pa_cons (pv 2) pa_nil)) pe_int) (pa_cons (pe_op op_mul pe_int (pv 1)) pa_nil)))))), ?_⟩
    refine ⟨_, rfl, _, rfl, a, ns, i, rfl, hS, fun r H1 s1 => ?_⟩
    refine ⟨_, rfl, _, _, rfl, rfl, ⟨by decide, by decide, by decide⟩, _, _, rfl, rfl, _, _, rfl, .inl ⟨_, rfl, _, _, rfl, rfl, ⟨by decide, by decide, by decide⟩, _, _, rfl, rfl, pow60, _, _, rfl, rfl, pow600, ?_⟩⟩
    refine ⟨_, rfl, .inl ⟨_, rfl, _, _, rfl, rfl, (by show (0 : Int) < 2147483647; decide), _, rfl, _, _, rfl, rfl, .inl ⟨by decide, by decide⟩, (by show 3 ≤ sizeLine; decide), fun g hg => ?_⟩⟩
    exact q g _ (s1.trans (same_new hg)) (s1.free hg) ⟨_, _, _, upd_same, Int.emod_nonneg _ (by decide), Int.emod_lt_of_pos _ (by decide), by omega, by omega⟩

abbrev sTie : Stmt := topS 54
theorem scTie : FnScope ["_law_company_here", "_law_one", "_law_other"] ["_law_company_here", "_law_one", "_law_other"] (defScope sTie) := ⟨rfl, rfl, rfl, by decide +kernel, rfl, by decide +kernel, by decide +kernel⟩
theorem ok_tie {f : Addr} {fd : FuncData} (F : Fun K "_law_tie" "_law_tie" sTie f fd) (T : Bi mg) : FnOk P w K mg base CX0 1 f fd ["_law_company_here", "_law_one", "_law_other"] spTie := by
  refine F.ok scTie (fun vs H Q E h => ?_) (fun cdv A outer s H vs Q E hr h => ?_)
  · obtain ⟨c, rs, kss, k, i, j, rfl, _⟩ := h
    rfl
  · obtain ⟨c, rs, kss, k, i, j, rfl, t, fine, hi, hj, ne, q⟩ := h
    refine ⟨_, pss_one (ps_ret (pe_ix ix_list (pe_ix ix_list (pv 0) (pe_callB (call_max2 rfl) (by rfl) T.max (by decide +kernel) (pa_cons (pv 1) (pa_cons (pv 2) pa_nil))) (fun _ _ => rfl)) (pe_callB (call_min2 rfl) (by rfl) T.min (by decide +kernel) (pa_cons (pv 1) (pa_cons (pv 2) pa_nil))) (fun _ _ => rfl))), ?_⟩
    have e1 : (if (j : Int) > (i : Int) then (j : Int) else (i : Int)) = ((max i j : Nat) : Int) := by
      by_cases c : i < j
      · rw [if_pos (by omega), Nat.max_eq_right (by omega)]
      · rw [if_neg (by omega), Nat.max_eq_left (by omega)]
    have e2 : (if (j : Int) < (i : Int) then (j : Int) else (i : Int)) = ((min i j : Nat) : Int) := by
      by_cases c : i < j
      · rw [if_neg (by omega), Nat.min_eq_left (by omega)]
      · by_cases c2 : j < i
        · rw [if_pos (by omega), Nat.min_eq_right (by omega)]
        · omega
    have hm : max i j < kss.length := by omega
    obtain ⟨r, ks, a1, a2, a3⟩ := t.at hm
    obtain ⟨b1, _⟩ := fine _ _ a2
    have hlo : min i j < ks.length := by omega
    have ez : tieN kss i j = ks[min i j] := by
      have eA : kss.getD (max i j) [] = ks := by rw [List.getD_eq_getElem?_getD, a2]; rfl
      unfold tieN
      rw [eA, List.getD_eq_getElem?_getD, List.getElem?_eq_getElem hlo]
      rfl
    rw [ez] at q
    exact ⟨_, rfl, _, rfl, _, rfl, _, _, rfl, c, _, _, _, rfl, rfl, SqL.of t.top, at_of (j := max i j) (v := V.ref r) e1 (by rw [List.getElem?_map, a1]; rfl), _, rfl, _, rfl, _, _, rfl, r, _, _, _, rfl, rfl, SqL.of a3, at_of (j := min i j) (v := V.int ks[min i j]) e2 (by rw [List.getElem?_map, List.getElem?_eq_getElem hlo]; rfl), q⟩

end
end K05

namespace K05
open PySem PySem.Spec PyProof.Rows
open L2
open GL
section
variable {P : Program} {w : World} {K : PySem.W.Frag} {mg : Str → Option Value} {base : Heap}
abbrev sWhole : Stmt := topS 13
abbrev sBelow : Stmt := topS 14
abbrev sRow : Stmt := topS 16
abbrev sCompOf : Stmt := topS 17
theorem scWhole : FnScope ["value"] ["value"] (defScope sWhole) := ⟨rfl, rfl, rfl, by decide +kernel, rfl, by decide +kernel, by decide +kernel⟩
theorem ok_whole {f : Addr} {fd : FuncData} (F : Fun K "is_whole" "is_whole" sWhole f fd) (T : Bi mg) : FnOk P w K mg base CX0 1 f fd ["value"] (spWhole K) := by
  refine F.ok scWhole (fun vs H Q E h => ?_) (fun cdv A outer s H vs Q E hr h => ?_)
  · obtain ⟨x, d, rfl, _⟩ := h
    rfl
  · obtain ⟨x, d, rfl, hd, q⟩ := h
    refine ⟨_, pss_one (ps_ret (pe_and (pe_callB call_isi (by rfl) T.isinstance (by decide +kernel) (pa_cons (pv 0) (pa_cons (pe_bltn (v := .ty "int") (by rfl) T.int PyProof.Rows.boot_int rfl) pa_nil)))
      (pe_one (pe_not (pe_callB call_isi (by rfl) T.isinstance (by decide +kernel) (pa_cons (pv 0) (pa_cons (pe_bltn (v := .ty "bool") (by rfl) T.bool (by decide +kernel) rfl) pa_nil))))))), ?_⟩
    refine ⟨_, rfl, _, _, _, _, _, rfl, .ty "int", hd.ty, kit_int d, _, rfl, ?_⟩
    cases e : isInt d with
    | false =>
      refine iteF ?_
      have z : whole d = false := by unfold whole; rw [e]; rfl
      rw [← z]
      exact q
    | true =>
      refine iteT ⟨_, rfl, _, _, _, _, _, rfl, .ty "bool", hd.ty, kit_bool d, _, rfl, ?_⟩
      have z : whole d = !isBool d := by unfold whole; rw [e]; rfl
      rw [← z]
      exact q
theorem scBelow : FnScope ["value", "bound"] ["value", "bound"] (defScope sBelow) := ⟨rfl, rfl, rfl, by decide +kernel, rfl, by decide +kernel, by decide +kernel⟩
theorem ok_below {f : Addr} {fd : FuncData} (F : Fun K "is_below" "is_below" sBelow f fd) (U : Use P w K mg base "is_whole" ["value"] (spWhole K) 1) : FnOk P w K mg base CX0 2 f fd ["value", "bound"] (spBelow K) := by
  refine F.ok scBelow (fun vs H Q E h => ?_) (fun cdv A outer s H vs Q E hr h => ?_)
  · obtain ⟨x, d, k, rfl, _⟩ := h
    rfl
  · obtain ⟨x, d, k, rfl, hd, q⟩ := h
    refine ⟨_, pss_one (ps_ret (pe_and (pe_use U hr (by rfl) (pa_cons (pv 0) pa_nil)) (pe_one (pe_chain op_le op_lt pe_int (pv 0) (pv 1))))), ?_⟩
    refine ⟨_, rfl, _, d, rfl, hd, _, rfl, ?_⟩
    rcases whole_cases d with ⟨i, rfl, e⟩ | ⟨e, z⟩
    · rw [e]
      cases hd
      refine iteT ⟨_, rfl, _, _, rfl, rfl, _, rfl, ?_⟩
      cases c : decide ((0 : Int) ≤ i) with
      | true =>
        refine iteT ⟨_, rfl, _, _, rfl, rfl, ?_⟩
        have z : below k (.int i) = decide (i < k) := by
          show (decide (0 ≤ i) && decide (i < k)) = decide (i < k)
          rw [c, Bool.true_and]
        rw [z] at q
        exact q
      | false =>
        refine iteF ?_
        have z : below k (.int i) = false := by
          show (decide (0 ≤ i) && decide (i < k)) = false
          rw [c, Bool.false_and]
        rw [z] at q
        exact q
    · rw [e]
      refine iteF ?_
      rw [← z k]
      exact q
theorem scRow : FnScope ["kinds", "many", "value", "kind"] ["kinds", "many", "value"] (defScope sRow) := ⟨rfl, rfl, rfl, by decide +kernel, rfl, by decide +kernel, by decide +kernel⟩
theorem ok_row {f : Addr} {fd : FuncData} (F : Fun K "is_row" "is_row" sRow f fd) (T : Bi mg) (U : Use P w K mg base "is_below" ["value", "bound"] (spBelow K) 2) : FnOk P w K mg base CX0 3 f fd ["kinds", "many", "value"] (spRow K) := by
  refine F.ok scRow (fun vs H Q E h => ?_) (fun cdv A outer s H vs Q E hr h => ?_)
  · obtain ⟨x, d, k, n, rfl, _⟩ := h
    rfl
  · obtain ⟨x, d, k, n, rfl, hn, hd, q⟩ := h
    refine ⟨_, pss_one (ps_ret (pe_and (pe_callB call_isi (by rfl) T.isinstance (by decide +kernel) (pa_cons (pv 2) (pa_cons (pe_bltn (v := .ty "list") (by rfl) T.list PyProof.Rows.boot_list rfl) pa_nil)))
      (pe_and (pe_cmpR op_eq (pe_callB call_len_seq (by rfl) T.len PySem.boot_len (pa_cons (pv 2) pa_nil)) (pv 1) (nomark _))
      (pe_one (pe_callB (cr_all rfl) (by rfl) T.all (by decide +kernel) (pa_cons (pe_lc (own := [("kind", 3)]) (g := gName 3) (tt := tYes) rfl scRow.nd (pi_list (pv 2)) (blkOk_by (N := ["kinds", "many", "value", "kind"]) (sc := defScope sRow) (by decide +kernel))
        (fun _ _ _ _ _ => pg_name (i := 3) scRow.nd rfl (Or.inl rfl)) (fun _ _ _ _ _ => pts_nil) (fun _ _ _ _ _ => pe_use U hr (by rfl) (pa_cons (pv 3) (pa_cons (pv 0) pa_nil)))) pa_nil)))))), ?_⟩
    refine ⟨_, rfl, _, _, _, _, _, rfl, .ty "list", hd.ty, kit_list d, _, rfl, ?_⟩
    by_cases e : ∃ ds, d = .list ds
    · obtain ⟨ds, rfl⟩ := e
      cases hd with
      | @lst a xs _ ha hs =>
        have hl := hs.length
        refine iteT ⟨_, rfl, a, xs, rfl, .inl (SqL.of ha), _, rfl, rfl, _, rfl, ?_⟩
        rw [hl]
        by_cases c : (ds.length : Int) = n
        · rw [decide_eq_true (congrArg V.int c)]
          refine iteT ⟨_, rfl, a, rfl, ⟨_, SqL.of ha⟩, fun D hD => ?_⟩
          refine lc_list (K := K) (a := a) (xs := xs) (fun i H' => Same H H' ∧ H' D = some (.lst (((ds.take i).map (below k)).map V.bl))) ⟨same_new hD, upd_same⟩ (fun i H' _ z => (z.1).seq (SqL.of ha)) ?_ ?_
          · rintro i y H' hi ⟨s1, hD'⟩
            obtain ⟨dy, e1, d1⟩ := hs.get hi
            refine ⟨rfl, yes_of ?_⟩
            refine ⟨_, rfl, _, rfl, y, dy, k, rfl, Dt.same s1 dy _ d1, _, hD', ?_, ?_, ?_⟩
            · rw [List.length_map, List.length_map, List.length_take]
              exact small1000 (by omega)
            · exact fun b o z => by rw [upd_ne (ne_of_none z hD)]; exact s1 b o z
            · rw [upd_same, take_more (below k) e1, List.map_append]
              rfl
          · rintro H' ⟨s1, hD'⟩
            rw [hl, List.take_length] at hD'
            refine ⟨D, ds.map (below k), rfl, SqL.of hD', ?_⟩
            have z : rowOk k n (.list ds) = (ds.map (below k)).all id := by
              show (decide ((ds.length : Int) = n) && ds.all (below k)) = _
              rw [decide_eq_true c, Bool.true_and, List.all_map]
              rfl
            rw [← z]
            exact q _ s1
        · rw [decide_eq_false (fun z => c (V.int.inj z))]
          refine iteF ?_
          have z : rowOk k n (.list ds) = false := by
            show (decide ((ds.length : Int) = n) && ds.all (below k)) = false
            rw [decide_eq_false c]
            rfl
          rw [← z]
          exact q _ (Same.refl _)
    · have z : isList d = false ∧ rowOk k n d = false := by
        cases d with
        | list ds => exact (e ⟨ds, rfl⟩).elim
        | _ => exact ⟨rfl, rfl⟩
      rw [z.1]
      refine iteF ?_
      rw [← z.2]
      exact q _ (Same.refl _)
theorem scCompOf : FnScope ["kinds", "value", "person", "row"] ["kinds", "value"] (defScope sCompOf) := ⟨rfl, rfl, rfl, by decide +kernel, rfl, by decide +kernel, by decide +kernel⟩
theorem ok_compOf {f : Addr} {fd : FuncData} (F : Fun K "is_company_of" "is_company_of" sCompOf f fd) (T : Bi mg) (C : Cs mg) (U : Use P w K mg base "is_row" ["kinds", "many", "value"] (spRow K) 3) : FnOk P w K mg base CX0 4 f fd ["kinds", "value"] (spCompOf K) := by
  refine F.ok scCompOf (fun vs H Q E h => ?_) (fun cdv A outer s H vs Q E hr h => ?_)
  · obtain ⟨x, d, k, rfl, _⟩ := h
    rfl
  · obtain ⟨x, d, k, rfl, hd, q⟩ := h
    obtain ⟨t3, c3⟩ := C.people
    refine ⟨_, pss_cons (ps_if (PW.pt (pw_or (pt_not (pt_val (pe_callB call_isi (by rfl) T.isinstance (by decide +kernel) (pa_cons (pv 1) (pa_cons (pe_bltn (v := .ty "list") (by rfl) T.list PyProof.Rows.boot_list rfl) pa_nil)))))
        (pw_or1 (pt_not (pt_chain op_le op_le pe_int (pe_callB call_len_seq (by rfl) T.len PySem.boot_len (pa_cons (pv 1) pa_nil)) (pe_glob (v := .int 40) rfl c3 ⟨_, rfl⟩)))))) (pss_one (ps_ret pe_bl)) pss_nil)
      (pss_one (ps_ret (pe_callB (cr_all rfl) (by rfl) T.all (by decide +kernel) (pa_cons (pe_lc (own := [("person", 2), ("row", 3)]) (g := gTup K 2 (gCons (gName 2) (gCons (gName 3) gNil))) (tt := tYes) rfl scCompOf.nd (pi_enum (by rfl) T.enumerate (pa_cons (pv 1) pa_nil))
        (blkOk_by (N := ["kinds", "value", "person", "row"]) (sc := defScope sCompOf) (by decide +kernel)) (fun _ _ _ _ _ => pg_tup rfl (pgs_cons (pg_name (i := 2) scCompOf.nd rfl (Or.inl rfl)) (pgs_cons (pg_name (i := 3) scCompOf.nd rfl (Or.inl rfl)) pgs_nil)))
        (fun _ _ _ _ _ => pts_nil) (fun _ _ _ _ _ => pe_use U hr (by rfl) (pa_cons (pv 0) (pa_cons (pv 2) (pa_cons (pv 3) pa_nil))))) pa_nil)))), ?_⟩
    refine ⟨_, rfl, _, _, _, _, _, rfl, .ty "list", hd.ty, kit_list d, _, rfl, ?_⟩
    by_cases e : ∃ ds, d = .list ds
    · obtain ⟨ds, rfl⟩ := e
      cases hd with
      | @lst a xs _ ha hs =>
        have hl := hs.length
        refine iteF ⟨_, rfl, a, xs, rfl, .inl (SqL.of ha), _, _, rfl, rfl, _, rfl, ?_⟩
        rw [hl]
        by_cases c1 : (1 : Int) ≤ (ds.length : Int)
        · rw [decide_eq_true c1]
          refine iteT ⟨_, _, rfl, rfl, _, rfl, ?_⟩
          by_cases c2 : (ds.length : Int) ≤ 40
          · rw [decide_eq_true c2]
            refine iteF ⟨_, rfl, a, xs, rfl, SqL.of ha, fun D hD => ?_⟩
            refine lc_it (walk_enum (K := K) (a := a) (xs := xs)) (fun i H' => Same H H' ∧ H' D = some (.lst (((List.range i).map fun j => rowOk k ((0 + j : Nat) : Int) (ds.getD j .none)).map V.bl))) ⟨same_new hD, upd_same⟩ (fun i H' _ z => (z.1).seq (SqL.of ha)) ?_ ?_
            · rintro i y H' H'' hi ⟨s1, hD'⟩ ⟨T, x1, x2, rfl, nT, rfl, e1, e2⟩
              have e1' : x1 = .int (i : Nat) := (Option.some.inj e1).symm
              subst e1'
              obtain ⟨dy, f1, f2⟩ := hs.get e2
              have s2 := s1.trans (same_new (o := .tup [.int (i : Nat), x2]) nT)
              have ne : D ≠ T := ne_of_none hD' nT
              refine ⟨T, [.int (i : Nat), x2], rfl, SqT.of upd_same, rfl, _, _, rfl, _, _, rfl, rfl, rfl, yes_of ?_⟩
              refine ⟨_, rfl, _, rfl, _, rfl, x2, dy, k, i, rfl, by omega, Dt.same s2 dy _ f2, fun H3 s3 => ⟨_, s3 D _ (by rw [upd_ne ne]; exact hD'), ?_, ?_, ?_⟩⟩
              · rw [List.length_map, List.length_map, List.length_range]
                exact small1000 (by omega)
              · exact fun b o z => by rw [upd_ne (ne_of_none z hD)]; exact s3 b o (s2 b o z)
              · rw [upd_same, all_range_more]
                have ez : (0 + i : Nat) = i := Nat.zero_add i
                have eg : ds.getD i .none = dy := by rw [List.getD_eq_getElem?_getD, f1]; rfl
                rw [ez, eg]
            · rintro H' ⟨s1, hD'⟩
              refine ⟨D, _, rfl, SqL.of hD', ?_⟩
              rw [hl, ← rowsOk_all]
              have z : compOk k (.list ds) = rowsOk k 0 ds := by
                show ((decide (1 ≤ ds.length) && decide (ds.length ≤ 40)) && rowsOk k 0 ds) = _
                rw [decide_eq_true (by omega : 1 ≤ ds.length), decide_eq_true (by omega : ds.length ≤ 40)]
                rfl
              rw [← z]
              exact q _ s1
          · rw [decide_eq_false c2]
            refine iteT ?_
            have z : compOk k (.list ds) = false := by
              show ((decide (1 ≤ ds.length) && decide (ds.length ≤ 40)) && rowsOk k 0 ds) = _
              rw [decide_eq_false (by omega : ¬ ds.length ≤ 40), Bool.and_false, Bool.false_and]
            have q' := q _ (Same.refl _)
            rw [z] at q'
            exact q'
        · rw [decide_eq_false c1]
          refine iteF ⟨_, rfl, iteT ?_⟩
          have z : compOk k (.list ds) = false := by
            show ((decide (1 ≤ ds.length) && decide (ds.length ≤ 40)) && rowsOk k 0 ds) = _
            rw [decide_eq_false (by omega : ¬ 1 ≤ ds.length), Bool.false_and, Bool.false_and]
          have q' := q _ (Same.refl _)
          rw [z] at q'
          exact q'
    · have z : isList d = false ∧ compOk k d = false := by
        cases d with
        | list ds => exact (e ⟨ds, rfl⟩).elim
        | _ => exact ⟨rfl, rfl⟩
      rw [z.1]
      refine iteT ?_
      have q' := q _ (Same.refl _)
      rw [z.2] at q'
      exact q'

end
section
variable {P : Program} {w : World} {K : PySem.W.Frag} {mg : Str → Option Value} {base : Heap}
variable {er : Str → Addr}
abbrev sKindsA : Stmt := topS 15
abbrev nKindsA : List Str := ["value"]
theorem scKindsA : FnScope nKindsA ["value"] (defScope sKindsA) := ⟨rfl, rfl, rfl, by decide +kernel, rfl, by decide +kernel, by decide +kernel⟩
theorem ok_kindsA {f : Addr} {fd : FuncData} (F : Fun K "are_kinds" "are_kinds" sKindsA f fd) (T : Bi mg) (C : Cs mg) (Uiswhole : Use P w K mg base "is_whole" ["value"] (spWhole K) 1) : FnOk P w K mg base CX0 2 f fd ["value"] (spKindsA K) := by
  refine F.ok scKindsA (fun vs H Q E h => ?_) (fun cdv A outer s H vs Q E hr h => ?_)
  · obtain ⟨x, d, rfl, _⟩ := h
    rfl
  · obtain ⟨x, d, rfl, dx, q⟩ := h
    refine ⟨_, (pss_one (ps_ret (pe_and (pe_use Uiswhole hr (by rfl) (pa_cons (pv 0) pa_nil)) (pe_one (pe_chain op_le op_le (pe_glob (v := .int 2) rfl C.least.choose_spec ⟨_, rfl⟩) (pv 0) (pe_glob (v := .int 9) rfl C.most.choose_spec ⟨_, rfl⟩)))))), ?_⟩
    refine ⟨_, rfl, x, d, rfl, dx, _, rfl, ?_⟩
    cases d with
    | int k =>
      cases dx
      refine iteT ⟨_, rfl, _, _, rfl, rfl, _, rfl, ?_⟩
      by_cases h : 2 ≤ k
      · rw [decide_eq_true h]
        refine iteT ⟨_, _, rfl, rfl, ?_⟩
        have e : kindsD (.int k) = decide (k ≤ 9) := by
          show (decide (2 ≤ k) && decide (k ≤ 9)) = _
          rw [decide_eq_true h]
          rfl
        rw [e] at q
        exact q
      · rw [decide_eq_false h]
        refine iteF ?_
        have e : kindsD (.int k) = false := by
          show (decide (2 ≤ k) && decide (k ≤ 9)) = _
          rw [decide_eq_false h]
          rfl
        rw [e] at q
        exact q
    | _ => exact iteF q
abbrev sKnd : Stmt := topS 22
abbrev nKnd : List Str := ["kinds"]
theorem scKnd : FnScope nKnd ["kinds"] (defScope sKnd) := ⟨rfl, rfl, rfl, by decide +kernel, rfl, by decide +kernel, by decide +kernel⟩
theorem ok_knd {f : Addr} {fd : FuncData} (F : Fun K "check_kinds" "check_kinds" sKnd f fd) (T : Bi mg) (Uarekinds : Use P w K mg base "are_kinds" ["value"] (spKindsA K) 2) (XInvalidNumber : ErrU P w K mg base er "InvalidNumber") : FnOk P w K mg base (L2.CX P w) 3 f fd ["kinds"] (spKnd K er) := by
  obtain ⟨iInvalidNumber, tInvalidNumber, uInvalidNumber⟩ := XInvalidNumber
  refine F.okX scKnd (fun vs H Q E h => ?_) (fun cdv A outer s H vs Q E hr h => ?_)
  · obtain ⟨x, d, rfl, _⟩ := h
    rfl
  · obtain ⟨x, d, rfl, dx, good, bad⟩ := h
    refine ⟨_, (pss_one (ps_if (pt_not (pt_val (pe_use Uarekinds hr (by rfl) (pa_cons (pv 0) pa_nil))))
        (pss_one (ps_raise rfl (takes_of rfl rfl rfl rfl) (pmk_err tInvalidNumber uInvalidNumber hr (by rfl) (pa_cons (pv 0) pa_nil)))) pss_nil)), ?_⟩
    refine ⟨_, rfl, x, d, rfl, dx, _, rfl, ?_⟩
    cases h : kindsD d with
    | true => exact iteF (good h)
    | false => exact iteT ⟨_, rfl, err_by tInvalidNumber ((bad h).raise (Same.refl _))⟩
abbrev sCom : Stmt := topS 23
abbrev nCom : List Str := ["kinds", "company"]
theorem scCom : FnScope nCom ["kinds", "company"] (defScope sCom) := ⟨rfl, rfl, rfl, by decide +kernel, rfl, by decide +kernel, by decide +kernel⟩
theorem ok_com {f : Addr} {fd : FuncData} (F : Fun K "check_company" "check_company" sCom f fd) (T : Bi mg) (Uiscompanyof : Use P w K mg base "is_company_of" ["kinds", "value"] (spCompOf K) 4) (Ucheckkinds : UseX P w K mg base "check_kinds" ["kinds"] (spKnd K er) 3) (XInvalidCompany : ErrU P w K mg base er "InvalidCompany") : FnOk P w K mg base (L2.CX P w) 5 f fd ["kinds", "company"] (spCom K er) := by
  obtain ⟨iInvalidCompany, tInvalidCompany, uInvalidCompany⟩ := XInvalidCompany
  refine F.okX scCom (fun vs H Q E h => ?_) (fun cdv A outer s H vs Q E hr h => ?_)
  · obtain ⟨x, y, dk, dc, rfl, _⟩ := h
    rfl
  · obtain ⟨x, y, dk, dc, rfl, dx, dy, bad, rest⟩ := h
    refine ⟨_, (pss_cons (ps_expr (pe_useX Ucheckkinds (hr.mono (by decide)) (takes_of rfl rfl rfl rfl) (by rfl) (pa_cons (pv 0) pa_nil)))
      (pss_one (ps_if (pt_not (pt_val (pe_use Uiscompanyof hr (by rfl) (pa_cons (pv 0) (pa_cons (pv 1) pa_nil)))))
        (pss_one (ps_raise rfl (takes_of rfl rfl rfl rfl) (pmk_err tInvalidCompany uInvalidCompany (hr.mono (by decide)) (by rfl) (pa_cons (pv 1) pa_nil)))) pss_nil))), ?_⟩
    refine ⟨_, rfl, x, dk, rfl, dx, fun h => ?_, bad⟩
    obtain ⟨k, rfl, _, _⟩ := kinds_of h
    cases dx
    obtain ⟨r1, r2⟩ := rest k rfl h
    refine ⟨_, rfl, _, rfl, y, dc, k, rfl, dy, fun H1 s1 => ⟨_, rfl, ?_⟩⟩
    cases hc : compOk k dc with
    | true => exact iteF (r2 hc H1 s1)
    | false => exact iteT ⟨_, rfl, err_by tInvalidCompany ((r1 hc).raise s1)⟩
end
end K05

namespace K05
open PySem PySem.Spec PyProof.Rows
open L2
open GL
theorem ascD_get : ∀ (ns : List Int), ascD (ns.map PyData.int) = ((List.range (ns.length - 1)).all fun i => decide (ns.getD i 0 < ns.getD (i + 1) 0))
  | [] => rfl
  | [a] => rfl
  | a :: b :: r => by
    have ih := ascD_get (b :: r)
    show (decide (a < b) && ascD ((b :: r).map PyData.int)) = _
    rw [ih]
    simp only [List.length_cons, Nat.add_sub_cancel]
    rw [List.range_succ_eq_map, List.all_cons, List.all_map]
    rfl
theorem ints_of {k : Int} {ds : List PyData} (h : ds.all (below k) = true) : ∃ ns : List Int, ds = ns.map PyData.int ∧ ∀ z ∈ ns, 0 ≤ z ∧ z < k := by
  refine ⟨ds.map intOf, ?_, fun z hz => ?_⟩
  · rw [List.map_map]
    conv => lhs; rw [← List.map_id ds]
    exact List.map_congr_left fun d hd => by
      obtain ⟨j, rfl, _⟩ := below_int (List.all_eq_true.mp h d hd)
      rfl
  · obtain ⟨d, hd, rfl⟩ := List.mem_map.mp hz
    obtain ⟨j, rfl, j0, j1⟩ := below_int (List.all_eq_true.mp h d hd)
    exact ⟨j0, j1⟩
theorem vals_of {K : PySem.W.Frag} {H : Hp} : ∀ {vs : List V} {ns : List Int}, Dts K H vs (ns.map PyData.int) → vs = ns.map V.int
  | [], [], _ => rfl
  | _ :: _, n :: ns, .cons h t => by
    cases h
    rw [vals_of t]
    rfl
section
variable {P : Program} {w : World} {K : PySem.W.Frag} {mg : Str → Option Value} {base : Heap}
variable {er : Str → Addr}
section
variable {P : Program} {w : World} {K : PySem.W.Frag} {mg : Str → Option Value} {base : Heap}
abbrev sCoupleD : Stmt := topS 18
abbrev nCoupleD : List Str := ["many", "value"]
theorem scCoupleD : FnScope nCoupleD ["many", "value"] (defScope sCoupleD) := ⟨rfl, rfl, rfl, by decide +kernel, rfl, by decide +kernel, by decide +kernel⟩
theorem ok_coupleD {f : Addr} {fd : FuncData} (F : Fun K "is_couple" "is_couple" sCoupleD f fd) (T : Bi mg) (Uisbelow : Use P w K mg base "is_below" ["value", "bound"] (spBelow K) 2) : FnOk P w K mg base CX0 3 f fd ["many", "value"] (spCoupleD K) := by
  refine F.ok scCoupleD (fun vs H Q E h => ?_) (fun cdv A outer s H vs Q E hr h => ?_)
  · obtain ⟨n, x, d, rfl, _⟩ := h
    rfl
  · obtain ⟨n, x, d, rfl, hd, q⟩ := h
    refine ⟨_, (pss_cons (ps_if (PW.pt (pw_or (pt_not (pt_val (pe_callB call_isi (by rfl) T.isinstance (by decide +kernel) (pa_cons (pv 1) (pa_cons (pe_bltn (v := .ty "tuple") (by rfl) T.tuple (by decide +kernel) rfl) pa_nil))))) (pw_or1 (pt_cmpR op_ne (pe_callB call_len_seq (by rfl) T.len PySem.boot_len (pa_cons (pv 1) pa_nil)) pe_int (nomark _)))))
        (pss_one (ps_ret pe_bl)) pss_nil)
      (pss_one (ps_ret (pe_and (pe_use Uisbelow hr (by rfl) (pa_cons (pe_ix ix_tup (pv 1) pe_int (fun _ _ => rfl)) (pa_cons (pv 0) pa_nil))) (pe_one (pe_use Uisbelow hr (by rfl) (pa_cons (pe_ix ix_tup (pv 1) pe_int (fun _ _ => rfl)) (pa_cons (pe_ix ix_tup (pv 1) pe_int (fun _ _ => rfl)) pa_nil)))))))), ?_⟩
    refine ⟨_, rfl, _, _, _, _, _, rfl, .ty "tuple", hd.ty, kit_tuple d, _, rfl, ?_⟩
    by_cases e : ∃ ds, d = .tuple ds
    · obtain ⟨ds, rfl⟩ := e
      cases hd with
      | tup ht hx =>
        rename_i t xs
        refine iteF ⟨_, rfl, t, _, rfl, .inr (SqT.of ht), rfl, _, rfl, ?_⟩
        have lx := hx.length
        by_cases l2 : ds.length = 2
        · match ds, l2, xs, hx with
          | [y, z], _, [vy, vz], .cons hy (.cons hz .nil) =>
            refine iteF ?_
            refine ⟨_, rfl, t, _, _, _, rfl, rfl, SqT.of ht, at_of (j := 1) rfl rfl, _, rfl, vz, z, n, rfl, hz, _, rfl, ?_⟩
            have cc : cplD n (.tuple [y, z]) = (below n z && cTail y z) := rfl
            cases bz : below n z with
            | false =>
              refine iteF ?_
              rw [cc, bz] at q
              exact q
            | true =>
              obtain ⟨j, rfl, j0, j1⟩ := below_int bz
              have ez : vz = .int j := by
                cases hz
                rfl
              subst ez
              refine iteT ⟨_, rfl, t, _, _, _, rfl, rfl, SqT.of ht, at_of (j := 0) rfl rfl, _, rfl, t, _, _, _, rfl, rfl, SqT.of ht, at_of (j := 1) rfl rfl, vy, y, j, rfl, hy, ?_⟩
              rw [cc, bz] at q
              exact q
        · have ne : ¬ ((xs.length : Nat) : Int) = 2 := by omega
          have ez : decide (V.int ((xs.length : Nat) : Int) = V.int 2) = false := decide_eq_false fun z => ne (by injection z)
          rw [ez]
          refine iteT ?_
          have cc : cplD n (.tuple ds) = false := by
            match ds, l2 with
            | [], _ => rfl
            | [a], _ => rfl
            | a :: b :: c :: l, _ => rfl
          rw [cc] at q
          exact q
    · have z : isTup d = false ∧ cplD n d = false := by
        cases d with
        | tuple ds => exact (e ⟨ds, rfl⟩).elim
        | _ => exact ⟨rfl, rfl⟩
      rw [z.1]
      refine iteT (iteT ?_)
      rw [z.2] at q
      exact q

end
abbrev sComs : Stmt := topS 24
abbrev nComs : List Str := ["kinds", "one", "other"]
theorem scComs : FnScope nComs ["kinds", "one", "other"] (defScope sComs) := ⟨rfl, rfl, rfl, by decide +kernel, rfl, by decide +kernel, by decide +kernel⟩
theorem ok_coms {f : Addr} {fd : FuncData} (F : Fun K "check_companies" "check_companies" sComs f fd) (T : Bi mg) (Uiscompanyof : Use P w K mg base "is_company_of" ["kinds", "value"] (spCompOf K) 4) (Ucheckcompany : UseX P w K mg base "check_company" ["kinds", "company"] (spCom K er) 5) (XInvalidCompany : ErrU P w K mg base er "InvalidCompany") (XUnlike : ErrU P w K mg base er "Unlike") : FnOk P w K mg base (L2.CX P w) 6 f fd ["kinds", "one", "other"] (spComs K er) := by
  obtain ⟨iInvalidCompany, tInvalidCompany, uInvalidCompany⟩ := XInvalidCompany
  obtain ⟨iUnlike, tUnlike, uUnlike⟩ := XUnlike
  refine F.okX scComs (fun vs H Q E h => ?_) (fun cdv A outer s H vs Q E hr h => ?_)
  · obtain ⟨x, y, z, dk, dc, dz, rfl, _⟩ := h
    rfl
  · obtain ⟨x, y, z, dk, dc, dz, rfl, dx, dy, dd, bad, rest⟩ := h
    refine ⟨_, (pss_cons (ps_expr (pe_useX Ucheckcompany hr (takes_of rfl rfl rfl rfl) (by rfl) (pa_cons (pv 0) (pa_cons (pv 1) pa_nil))))
      (pss_cons (ps_if (pt_not (pt_val (pe_use Uiscompanyof (hr.mono (by decide)) (by rfl) (pa_cons (pv 0) (pa_cons (pv 2) pa_nil)))))
        (pss_one (ps_raise rfl (takes_of rfl rfl rfl rfl) (pmk_err tInvalidCompany uInvalidCompany (hr.mono (by decide)) (by rfl) (pa_cons (pv 2) pa_nil)))) pss_nil)
      (pss_one (ps_if (pt_cmpR op_ne (pe_callB call_len_seq (by rfl) T.len PySem.boot_len (pa_cons (pv 1) pa_nil)) (pe_callB call_len_seq (by rfl) T.len PySem.boot_len (pa_cons (pv 2) pa_nil)) (nomark _))
        (pss_one (ps_raise rfl (takes_of rfl rfl rfl rfl) (pmk_err tUnlike uUnlike (hr.mono (by decide)) (by rfl) (pa_cons (pv 2) pa_nil)))) pss_nil)))), ?_⟩
    refine ⟨_, rfl, _, rfl, x, y, dk, dc, rfl, dx, dy, bad, fun k ek hk => ?_⟩
    subst ek
    obtain ⟨r1, r2⟩ := rest k rfl hk
    refine ⟨r1, fun hc H1 s1 => ?_⟩
    obtain ⟨r3, r4⟩ := r2 hc
    cases dx
    refine ⟨_, rfl, _, rfl, z, dz, k, rfl, Dt.same s1 _ _ dd, fun H2 s2 => ⟨_, rfl, ?_⟩⟩
    have s12 := s1.trans s2
    cases hz : compOk k dz with
    | false => exact iteT ⟨_, rfl, err_by tInvalidCompany ((r3 hz).raise s12)⟩
    | true =>
      refine iteF ?_
      obtain ⟨ds, rfl⟩ : ∃ ds, dc = .list ds := by
        cases dc with
        | list ds => exact ⟨ds, rfl⟩
        | _ => cases hc
      obtain ⟨es, rfl⟩ : ∃ es, dz = .list es := by
        cases dz with
        | list es => exact ⟨es, rfl⟩
        | _ => cases hz
      obtain ⟨r5, r6⟩ := r4 ds es rfl rfl hz
      cases dy with
      | @lst a xs _ ha hs =>
        cases dd with
        | @lst b ys _ hb ht =>
          refine ⟨_, rfl, a, _, rfl, .inl (SqL.of (s12 _ _ ha)), _, rfl, b, _, rfl, .inl (SqL.of (s12 _ _ hb)), rfl, _, rfl, ?_⟩
          rw [hs.length, ht.length]
          by_cases c : ds.length = es.length
          · rw [c]
            have : (!decide (V.int ((es.length : Nat) : Int) = V.int ((es.length : Nat) : Int))) = false := by simp
            rw [this]
            exact iteF (r6 c H2 s12)
          · have : (!decide (V.int ((ds.length : Nat) : Int) = V.int ((es.length : Nat) : Int))) = true := by
              rw [decide_eq_false (fun z => c (by have := V.int.inj z; omega))]
              rfl
            rw [this]
            exact iteT ⟨_, rfl, err_by tUnlike ((r5 c).raise s12)⟩
abbrev sCou : Stmt := topS 25
abbrev nCou : List Str := ["company", "couple"]
theorem scCou : FnScope nCou ["company", "couple"] (defScope sCou) := ⟨rfl, rfl, rfl, by decide +kernel, rfl, by decide +kernel, by decide +kernel⟩
theorem ok_cou {f : Addr} {fd : FuncData} (F : Fun K "check_couple" "check_couple" sCou f fd) (T : Bi mg) (Uiscouple : Use P w K mg base "is_couple" ["many", "value"] (spCoupleD K) 3) (XInvalidCouple : ErrU P w K mg base er "InvalidCouple") : FnOk P w K mg base (L2.CX P w) 4 f fd ["company", "couple"] (spCou K er) := by
  obtain ⟨iInvalidCouple, tInvalidCouple, uInvalidCouple⟩ := XInvalidCouple
  refine F.okX scCou (fun vs H Q E h => ?_) (fun cdv A outer s H vs Q E hr h => ?_)
  · obtain ⟨c, xs, z, dz, rfl, _⟩ := h
    rfl
  · obtain ⟨c, xs, z, dz, rfl, hc, dd, good, bad⟩ := h
    refine ⟨_, (pss_one (ps_if (pt_not (pt_val (pe_use Uiscouple hr (by rfl) (pa_cons (pe_callB call_len_seq (by rfl) T.len PySem.boot_len (pa_cons (pv 0) pa_nil)) (pa_cons (pv 1) pa_nil)))))
        (pss_one (ps_raise rfl (takes_of rfl rfl rfl rfl) (pmk_err tInvalidCouple uInvalidCouple (hr.mono (by decide)) (by rfl) (pa_cons (pv 1) pa_nil)))) pss_nil)), ?_⟩
    refine ⟨_, rfl, c, _, rfl, .inl (SqL.of hc), _, rfl, _, z, dz, rfl, dd, _, rfl, ?_⟩
    cases h : cplD xs.length dz with
    | true => exact iteF (good h)
    | false => exact iteT ⟨_, rfl, err_by tInvalidCouple ((bad h).raise (Same.refl _))⟩
abbrev sLotA : Stmt := topS 20
abbrev nLotA : List Str := ["many", "value", "person", "later"]
theorem scLotA : FnScope nLotA ["many", "value"] (defScope sLotA) := ⟨rfl, rfl, rfl, by decide +kernel, rfl, by decide +kernel, by decide +kernel⟩
theorem ok_lotA {f : Addr} {fd : FuncData} (F : Fun K "is_lot" "is_lot" sLotA f fd) (T : Bi mg) (Uisbelow : Use P w K mg base "is_below" ["value", "bound"] (spBelow K) 2) : FnOk P w K mg base CX0 3 f fd ["many", "value"] (spLotA K) := by
  refine F.ok scLotA (fun vs H Q E h => ?_) (fun cdv A outer s H vs Q E hr h => ?_)
  · obtain ⟨n, x, d, rfl, _⟩ := h
    rfl
  · obtain ⟨n, x, d, rfl, n100, hd, q⟩ := h
    refine ⟨_, (pss_cons (ps_if (PW.pt (pw_or (pt_not (pt_val (pe_callB call_isi (by rfl) T.isinstance (by decide +kernel) (pa_cons (pv 1) (pa_cons (pe_bltn (v := .ty "list") (by rfl) T.list (by decide +kernel) rfl) pa_nil))))) (pw_or1 (pt_not (pt_chain op_le op_le pe_int (pe_callB call_len_seq (by rfl) T.len PySem.boot_len (pa_cons (pv 1) pa_nil)) (pv 0))))))
        (pss_one (ps_ret pe_bl)) pss_nil)
      (pss_cons (ps_if (pt_not (pt_val (pe_callB (cr_all rfl) (by rfl) T.all (by decide +kernel) (pa_cons (pe_lc (own := [("person", 2)]) (g := (gName 2)) (tt := tYes) (te := (tCall (spBelow K) [] E0 (tCons (tVar 2) (tCons (tVar 0) tNil)))) rfl scLotA.nd (pi_list (pv 1))
            (blkOk_by (N := nLotA) (sc := (defScope sLotA)) (by decide +kernel)) (fun _ _ _ _ _ => (pg_name (i := 2) scLotA.nd rfl (Or.inl rfl))) (fun _ _ _ _ _ => by exact pts_nil)
            (fun _ _ _ _ _ => by exact (pe_use Uisbelow hr (by rfl) (pa_cons (pv 2) (pa_cons (pv 0) pa_nil))))) pa_nil))))
        (pss_one (ps_ret pe_bl)) pss_nil)
      (pss_one (ps_ret (pe_callB (cr_all rfl) (by rfl) T.all (by decide +kernel) (pa_cons (pe_lc (own := [("person", 2), ("later", 3)]) (g := (gTup K 2 (gCons (gName 2) (gCons (gName 3) gNil)))) (tt := tYes) (te := (tOp (rI0 fun i j => .bl (decide (i < j))) (tVar 2) (tVar 3))) rfl scLotA.nd (pi_zip (by rfl) T.zip (pa_cons (pv 1) (pa_cons (pe_slice sl_list (pv 1) (po_some pe_int) po_none) pa_nil)))
            (blkOk_by (N := nLotA) (sc := (defScope sLotA)) (by decide +kernel)) (fun _ _ _ _ _ => (pg_tup rfl (pgs_cons (pg_name (i := 2) scLotA.nd rfl (Or.inl rfl)) (pgs_cons (pg_name (i := 3) scLotA.nd rfl (Or.inl rfl)) pgs_nil)))) (fun _ _ _ _ _ => by exact pts_nil)
            (fun _ _ _ _ _ => by exact (pe_cmpR op_lt (pv 2) (pv 3) (nomark _)))) pa_nil)))))), ?_⟩
    refine ⟨_, rfl, _, _, _, _, _, rfl, .ty "list", hd.ty, kit_list d, _, rfl, ?_⟩
    by_cases e : ∃ ds, d = .list ds
    · obtain ⟨ds, rfl⟩ := e
      cases hd with
      | @lst a xs _ ha hs =>
        have hl := hs.length
        have lo : lotD n (.list ds) = ((decide (1 ≤ (ds.length : Int)) && decide ((ds.length : Int) ≤ n)) && (ds.all (below n) && ascD ds)) := rfl
        refine iteF ⟨_, rfl, a, _, rfl, .inl (SqL.of ha), _, _, rfl, rfl, _, rfl, ?_⟩
        rw [hl]
        by_cases c1 : (1 : Int) ≤ (ds.length : Int)
        · rw [decide_eq_true c1] at lo ⊢
          refine iteT ⟨_, rfl, _, _, rfl, rfl, _, rfl, ?_⟩
          by_cases c2 : (ds.length : Int) ≤ (n : Int)
          · rw [decide_eq_true c2] at lo ⊢
            refine iteF ⟨_, rfl, a, rfl, ⟨_, SqL.of ha⟩, fun D hD => ?_⟩
            refine lc_list (K := K) (a := a) (xs := xs) (fun i H' => Same H H' ∧ H' D = some (.lst (((ds.take i).map (below n)).map V.bl))) ⟨same_new hD, upd_same⟩ (fun i H' _ z => (z.1).seq (SqL.of ha)) ?_ ?_
            · rintro i y H' hi ⟨s1, hD'⟩
              obtain ⟨dy, e1, d1⟩ := hs.get hi
              refine ⟨rfl, yes_of ?_⟩
              refine ⟨_, rfl, _, rfl, y, dy, n, rfl, Dt.same s1 dy _ d1, _, hD', ?_, ?_, ?_⟩
              · rw [List.length_map, List.length_map, List.length_take]
                exact small1000 (by omega)
              · exact fun b o z => by rw [upd_ne (ne_of_none z hD)]; exact s1 b o z
              · rw [upd_same, take_more (below n) e1, List.map_append]
                rfl
            · rintro H' ⟨s1, hD'⟩
              rw [hl, List.take_length] at hD'
              refine ⟨D, ds.map (below n), rfl, SqL.of hD', _, rfl, ?_⟩
              have ea : (ds.map (below n)).all id = ds.all (below n) := by
                rw [List.all_map]
                rfl
              rw [ea]
              cases hb : ds.all (below n) with
              | false =>
                rw [hb] at lo
                refine iteT ?_
                have := q _ s1
                rw [lo] at this
                exact this
              | true =>
                rw [hb] at lo
                obtain ⟨ns, rfl, bd⟩ := ints_of hb
                obtain rfl := vals_of hs
                rw [List.length_map] at c1 c2
                refine iteF ⟨_, rfl, _, rfl, 1, rfl, a, _, rfl, SqL.of (s1 _ _ ha), fun c nc => ?_⟩
                rw [cut_one]
                obtain ⟨H2, e2, s2, f2⟩ := gen H' nc (.lst ((ns.map V.int).drop 1))
                rw [e2]
                clear e2
                have s12 := s1.trans s2
                refine ⟨a, c, _, _, rfl, SqL.of (s12 _ _ ha), SqL.of f2, fun D2 hD2 => ?_⟩
                have mn : min (ns.map V.int).length ((ns.map V.int).drop 1).length = ns.length - 1 := by
                  rw [List.length_drop, List.length_map]
                  omega
                refine lc_it (walk_zip (K := K) (a := a) (b := c) (xs := ns.map V.int) (ys := (ns.map V.int).drop 1) (n := ns.length - 1) mn.symm) (fun i H' => Same H2 H' ∧ H' D2 = some (.lst (((List.range i).map fun i => decide (ns.getD i 0 < ns.getD (i + 1) 0)).map V.bl))) ⟨same_new hD2, upd_same⟩ (fun i H' _ z => ⟨SqL.of (z.1 _ _ (s12 _ _ ha)), SqL.of (z.1 _ _ f2)⟩) ?_ ?_
                · rintro i y H3 H4 hi ⟨s3, h3⟩ ⟨A2, x1, x2, rfl, nA, rfl, e1, e2⟩
                  have i1 : i < ns.length := by omega
                  have i2 : i + 1 < ns.length := by omega
                  have e1' : (ns.map V.int)[i]? = some x1 := e1
                  have e2' : ((ns.map V.int).drop 1)[i]? = some x2 := e2
                  rw [List.getElem?_map, List.getElem?_eq_getElem i1] at e1'
                  rw [List.getElem?_drop, Nat.add_comm 1 i, List.getElem?_map, List.getElem?_eq_getElem i2] at e2'
                  cases e1'
                  cases e2'
                  have g1 : ns.getD i 0 = ns[i] := by rw [List.getD_eq_getElem?_getD, List.getElem?_eq_getElem i1]; rfl
                  have g2 : ns.getD (i + 1) 0 = ns[i + 1] := by rw [List.getD_eq_getElem?_getD, List.getElem?_eq_getElem i2]; rfl
                  refine ⟨A2, _, rfl, SqT.of upd_same, rfl, _, _, rfl, _, _, rfl, rfl, rfl, yes_of ?_⟩
                  refine ⟨_, rfl, _, rfl, _, _, rfl, rfl, ((List.range i).map fun i => decide (ns.getD i 0 < ns.getD (i + 1) 0)).map V.bl, ?_, ?_, ?_⟩
                  · rw [upd_ne (ne_of_none h3 nA)]
                    exact h3
                  · rw [List.length_map, List.length_map, List.length_range]
                    exact small1000 (by omega)
                  · refine ⟨fun b o' e' => ?_, ?_⟩
                    · have n1 : b ≠ A2 := ne_of_none (s3 _ _ e') nA
                      have n2 : b ≠ D2 := ne_of_none e' hD2
                      rw [upd_ne n2, upd_ne n1]
                      exact s3 _ _ e'
                    · rw [upd_same, List.range_succ, List.map_append, List.map_append]
                      show some (HO.lst (_ ++ [V.bl (decide (ns[i] < ns[i + 1]))])) = some (HO.lst (_ ++ [V.bl (decide (ns.getD i 0 < ns.getD (i + 1) 0))]))
                      rw [g1, g2]
                · rintro H3 ⟨s3, h3⟩
                  refine ⟨D2, _, rfl, SqL.of h3, ?_⟩
                  have eb : ((List.range (ns.length - 1)).map fun i => decide (ns.getD i 0 < ns.getD (i + 1) 0)).all id = ascD (ns.map PyData.int) := by
                    rw [ascD_get, List.all_map]
                    rfl
                  rw [eb]
                  have := q _ (s12.trans s3)
                  rw [lo] at this
                  simpa using this
          · rw [decide_eq_false c2] at lo ⊢
            refine iteT ?_
            have := q _ (Same.refl _)
            rw [lo] at this
            exact this
        · rw [decide_eq_false c1] at lo ⊢
          refine iteF ⟨_, rfl, iteT ?_⟩
          have := q _ (Same.refl _)
          rw [lo] at this
          exact this
    · have z : isList d = false ∧ lotD n d = false := by
        cases d with
        | list ds => exact (e ⟨ds, rfl⟩).elim
        | _ => exact ⟨rfl, rfl⟩
      rw [z.1]
      refine iteT (iteT ?_)
      have q' := q _ (Same.refl _)
      rw [z.2] at q'
      exact q'
abbrev sLotC : Stmt := topS 26
abbrev nLotC : List Str := ["company", "lot"]
theorem scLotC : FnScope nLotC ["company", "lot"] (defScope sLotC) := ⟨rfl, rfl, rfl, by decide +kernel, rfl, by decide +kernel, by decide +kernel⟩
theorem ok_lotC {f : Addr} {fd : FuncData} (F : Fun K "check_lot" "check_lot" sLotC f fd) (T : Bi mg) (Uislot : Use P w K mg base "is_lot" ["many", "value"] (spLotA K) 3) (XInvalidLot : ErrU P w K mg base er "InvalidLot") : FnOk P w K mg base (L2.CX P w) 4 f fd ["company", "lot"] (spLotC K er) := by
  obtain ⟨iInvalidLot, tInvalidLot, uInvalidLot⟩ := XInvalidLot
  refine F.okX scLotC (fun vs H Q E h => ?_) (fun cdv A outer s H vs Q E hr h => ?_)
  · obtain ⟨c, xs, z, dz, rfl, _⟩ := h
    rfl
  · obtain ⟨c, xs, z, dz, rfl, hc, x100, dd, good, bad⟩ := h
    refine ⟨_, (pss_one (ps_if (pt_not (pt_val (pe_use Uislot hr (by rfl) (pa_cons (pe_callB call_len_seq (by rfl) T.len PySem.boot_len (pa_cons (pv 0) pa_nil)) (pa_cons (pv 1) pa_nil)))))
        (pss_one (ps_raise rfl (takes_of rfl rfl rfl rfl) (pmk_err tInvalidLot uInvalidLot (hr.mono (by decide)) (by rfl) (pa_cons (pv 1) pa_nil)))) pss_nil)), ?_⟩
    refine ⟨_, rfl, c, _, rfl, .inl (SqL.of hc), _, rfl, xs.length, z, dz, rfl, x100, dd, fun H1 s1 => ⟨_, rfl, ?_⟩⟩
    cases h : lotD xs.length dz with
    | true => exact iteF (good h H1 s1)
    | false => exact iteT ⟨_, rfl, err_by tInvalidLot ((bad h).raise s1)⟩
end
end K05

/-! A tuple of a couple and a kind. -/
namespace GL
open PySem PySem.Spec PyProof.Rows
open L2
def kindOk (k : Int) : PyData → Bool
  | .tuple [_, _, z] => below k z
  | _ => false
def cplKB (n k : Int) (d : PyData) : Bool := headOk n d && kindOk k d
def spCplK (K : PySem.W.Frag) : Sp := fun vs H Q _ => ∃ (k n : Int) (x : V) (d : PyData), vs = [.int k, .int n, x] ∧ Dt K H x d ∧ ∀ H', Same H H' → Q (.bl (cplKB n k d)) H'
theorem cplK_nat {n k : Int} {d : PyData} (h : cplKB n k d = true) : ∃ (a b : Nat) (v : Int), d = .tuple [.int (a : Nat), .int (b : Nat), .int v] ∧ a < b ∧ (b : Int) < n ∧ 0 ≤ v ∧ v < k := by
  unfold cplKB at h
  rw [Bool.and_eq_true] at h
  obtain ⟨a, b, z, rfl, h1, h2⟩ := head_nat h.1
  obtain ⟨v, rfl, v0, v1⟩ := below_int (show below k z = true from h.2)
  exact ⟨a, b, v, rfl, h1, h2, v0, v1⟩
theorem cplK_not {k : Int} {kss : List (List Int)} {d : PyData} (h : cplKB (kss.length : Nat) k d = false) : deedB k kss d = false := by
  cases e : deedB k kss d with
  | false => rfl
  | true =>
    obtain ⟨a, b, v, rfl, ab, bn, v0, v1, _, _⟩ := deed_nat e
    have h1 : cplKB (kss.length : Nat) k (.tuple [.int (a : Nat), .int (b : Nat), .int v]) = ((below (kss.length : Nat) (.int (b : Nat)) && below (b : Nat) (.int (a : Nat))) && below k (.int v)) := rfl
    rw [h1, below_of (by omega) (by omega), below_of (by omega) (by omega), below_of v0 v1] at h
    cases h
end GL

namespace K05
open PySem PySem.Spec PyProof.Rows
open L2
open GL
section
variable {P : Program} {w : World} {K : PySem.W.Frag} {mg : Str → Option Value} {base : Heap}
variable {er : Str → Addr}
abbrev sOrderA : Stmt := topS 21
abbrev nOrderA : List Str := ["many", "value", "person"]
theorem scOrderA : FnScope nOrderA ["many", "value"] (defScope sOrderA) := ⟨rfl, rfl, rfl, by decide +kernel, rfl, by decide +kernel, by decide +kernel⟩
theorem ok_orderA {f : Addr} {fd : FuncData} (F : Fun K "is_order" "is_order" sOrderA f fd) (T : Bi mg) (Uisbelow : Use P w K mg base "is_below" ["value", "bound"] (spBelow K) 2) : FnOk P w K mg base CX0 3 f fd ["many", "value"] (spOrderA K) := by
  refine F.ok scOrderA (fun vs H Q E h => ?_) (fun cdv A outer s H vs Q E hr h => ?_)
  · obtain ⟨n, x, d, rfl, _⟩ := h
    rfl
  · obtain ⟨n, x, d, rfl, n100, hd, small, q⟩ := h
    refine ⟨_, (pss_cons (ps_if (PW.pt (pw_or (pt_not (pt_val (pe_callB call_isi (by rfl) T.isinstance (by decide +kernel) (pa_cons (pv 1) (pa_cons (pe_bltn (v := .ty "list") (by rfl) T.list (by decide +kernel) rfl) pa_nil))))) (pw_or1 (pt_not (pt_val (pe_callB (cr_all rfl) (by rfl) T.all (by decide +kernel) (pa_cons (pe_lc (own := [("person", 2)]) (g := (gName 2)) (tt := tYes) (te := (tCall (spBelow K) [] E0 (tCons (tVar 2) (tCons (tVar 0) tNil)))) rfl scOrderA.nd (pi_list (pv 1))
            (blkOk_by (N := nOrderA) (sc := (defScope sOrderA)) (by decide +kernel)) (fun _ _ _ _ _ => (pg_name (i := 2) scOrderA.nd rfl (Or.inl rfl))) (fun _ _ _ _ _ => by exact pts_nil)
            (fun _ _ _ _ _ => by exact (pe_use Uisbelow hr (by rfl) (pa_cons (pv 2) (pa_cons (pv 0) pa_nil))))) pa_nil)))))))
        (pss_one (ps_ret pe_bl)) pss_nil)
      (pss_one (ps_ret (pe_cmpR (op_eqD hr.units) (pe_callB cr_sortedI (by rfl) T.sorted (by decide +kernel) (pa_cons (pv 1) pa_nil)) (pe_listRg rfl (by rfl) T.list (prg_1 (by rfl) T.range (pv 0))) (nomark _))))), ?_⟩
    refine ⟨_, rfl, _, _, _, _, _, rfl, .ty "list", hd.ty, kit_list d, _, rfl, ?_⟩
    by_cases e : ∃ ds, d = .list ds
    · obtain ⟨ds, rfl⟩ := e
      have l1000 := small ds rfl
      cases hd with
      | @lst a xs _ ha hs =>
        have hl := hs.length
        have lo : orderD n (.list ds) = (ds.all (below n) && (ds.map intOf).isPerm (nums (List.range n))) := rfl
        refine iteF ⟨_, rfl, a, rfl, ⟨_, SqL.of ha⟩, fun D hD => ?_⟩
        refine lc_list (K := K) (a := a) (xs := xs) (fun i H' => Same H H' ∧ H' D = some (.lst (((ds.take i).map (below n)).map V.bl))) ⟨same_new hD, upd_same⟩ (fun i H' _ z => (z.1).seq (SqL.of ha)) ?_ ?_
        · rintro i y H' hi ⟨s1, hD'⟩
          obtain ⟨dy, e1, d1⟩ := hs.get hi
          refine ⟨rfl, yes_of ?_⟩
          refine ⟨_, rfl, _, rfl, y, dy, n, rfl, Dt.same s1 dy _ d1, _, hD', ?_, ?_, ?_⟩
          · rw [List.length_map, List.length_map, List.length_take]
            exact small1000 (by omega)
          · exact fun b o z => by rw [upd_ne (ne_of_none z hD)]; exact s1 b o z
          · rw [upd_same, take_more (below n) e1, List.map_append]
            rfl
        · rintro H' ⟨s1, hD'⟩
          rw [hl, List.take_length] at hD'
          refine ⟨D, ds.map (below n), rfl, SqL.of hD', _, rfl, ?_⟩
          have ea : (ds.map (below n)).all id = ds.all (below n) := by
            rw [List.all_map]
            rfl
          rw [ea]
          cases hb : ds.all (below n) with
          | false =>
            rw [hb] at lo
            refine iteT ?_
            have := q _ s1
            rw [lo] at this
            exact this
          | true =>
            rw [hb] at lo
            obtain ⟨ns, rfl, bd⟩ := ints_of hb
            obtain rfl := vals_of hs
            have em : (ns.map PyData.int).map intOf = ns := by
              rw [List.map_map]
              exact List.map_id'' (fun _ => rfl) ns
            rw [em] at lo
            refine iteF ⟨_, rfl, a, ns, rfl, SqL.of (s1 _ _ ha), fun ns' p pm2 so hp => ?_⟩
            obtain ⟨H2, e2, s2, f2⟩ := gen H' hp (.lst (ns'.map V.int))
            rw [e2]
            clear e2
            refine ⟨_, rfl, _, rfl, RgOk.of_le (by omega) (by omega) (by omega) (by omega), fun l hl => ?_⟩
            obtain ⟨H3, e3, s3, f3⟩ := gen H2 hl (.lst (rgV 0 (n : Int)))
            rw [e3]
            clear e3
            refine ⟨rowP ns', rowP (nums (List.range n)), dp_row (SqL.of (s3 _ _ f2)), nat_dp (by rw [f3, rg_nat]), shaped_row _, shaped_row _, ?_⟩
            have en : decide (ns' = nums (List.range n)) = ns.isPerm (nums (List.range n)) := by
              rw [Bool.eq_iff_iff, decide_eq_true_eq, List.isPerm_iff]
              constructor
              · rintro rfl
                exact pm2.symm
              · intro pm
                refine PySem.W.os_sorted_one (pm2.trans pm) so ?_
                unfold nums
                exact List.pairwise_map.mpr (List.pairwise_lt_range.imp fun h => by omega)
            rw [eqv_row, en]
            have := q _ (s1.trans (s2.trans s3))
            rw [lo] at this
            exact this
    · have z : isList d = false ∧ orderD n d = false := by
        cases d with
        | list ds => exact (e ⟨ds, rfl⟩).elim
        | _ => exact ⟨rfl, rfl⟩
      rw [z.1]
      refine iteT (iteT ?_)
      have q' := q _ (Same.refl _)
      rw [z.2] at q'
      exact q'
end
section
variable {P : Program} {w : World} {K : PySem.W.Frag} {mg : Str → Option Value} {base : Heap}
abbrev sTies : Stmt := topS 28
abbrev nTies : List Str := ["company", "ties", "_", "other", "row", "one", "kind"]
theorem scTies : FnScope nTies ["company"] (defScope sTies) := ⟨rfl, rfl, rfl, by decide +kernel, rfl, by decide +kernel, by decide +kernel⟩
theorem ok_ties {f : Addr} {fd : FuncData} (F : Fun K "ties_of" "ties_of" sTies f fd) (T : Bi mg) : FnOk P w K mg base CX0 1 f fd ["company"] spTies := by
  refine F.ok scTies (fun vs H Q E h => ?_) (fun cdv A outer s H vs Q E hr h => ?_)
  · obtain ⟨c, rs, kss, k, rfl, _⟩ := h
    rfl
  · obtain ⟨c, rs, kss, k, rfl, t, fine, n100, q⟩ := h
    refine ⟨_, pss_cons (ps_setLc (i := 1) (own := [("_", 2)]) (g := gName 2) (tt := tYes) (te := tOp rRep (tLst (tCons (tC .non) tNil)) (tCB (rLen K) (tCons (tVar 0) tNil))) rfl scTies.nd rfl rfl (sw_true rfl rfl rfl (by decide +kernel)) (pi_list (pv 0))
          (blkOk_by (N := nTies) (sc := defScope sTies) (by decide +kernel)) (fun _ _ _ _ _ => pg_name (i := 2) scTies.nd rfl (Or.inl rfl)) (fun _ _ _ _ _ => pts_nil)
          (fun _ _ _ _ _ => by exact (pe_op op_rep (pe_lst (pa_cons pe_non pa_nil)) (pe_callB call_len_seq (by rfl) T.len PySem.boot_len (pa_cons (pv 0) pa_nil)))))
      (pss_cons (ps_for PassesOwn.never rfl (pi_enum (by rfl) T.enumerate (pa_cons (pv 0) pa_nil)) (pg_tup rfl (pgs_cons (pg_name (i := 3) scTies.nd rfl (Or.inl rfl)) (pgs_cons (pg_name (i := 4) scTies.nd rfl (Or.inl rfl)) pgs_nil)))
        (pss_one (ps_for PassesOwn.never rfl (pi_enum (by rfl) T.enumerate (pa_cons (pv 4) pa_nil)) (pg_tup rfl (pgs_cons (pg_name (i := 5) scTies.nd rfl (Or.inl rfl)) (pgs_cons (pg_name (i := 6) scTies.nd rfl (Or.inl rfl)) pgs_nil)))
          (pss_cons (ps_asg (pv 6) (pg_sub (pe_ix ix_list (pv 1) (pv 5) (fun _ _ => rfl)) (pv 3) set_list))
          (pss_one (ps_asg (pv 6) (pg_sub (pe_ix ix_list (pv 1) (pv 3) (fun _ _ => rfl)) (pv 5) set_list)))))))
      (pss_one (ps_ret (pv 1)))), ?_⟩
    obtain ⟨n, hn⟩ : ∃ n, kss.length = n := ⟨_, rfl⟩
    rw [hn] at n100
    have lr : (rs.map V.ref).length = n := by rw [List.length_map, t.len, hn]
    refine ⟨_, rfl, c, rfl, ⟨_, SqL.of t.top⟩, fun D hD => ?_⟩
    refine lc_list (K := K) (a := c) (xs := rs.map V.ref) (fun i H' => Same H H' ∧ ∃ ps : List Addr, H' D = some (.lst (ps.map V.ref)) ∧ ps.length = i ∧ (∀ r ∈ ps, H r = none ∧ H' r = some (.lst (List.replicate n .non))) ∧ ps.Nodup ∧ D ∉ ps)
      ⟨same_new hD, [], upd_same, rfl, by simp, List.nodup_nil, by simp⟩ (fun i H' _ z => SqL.of (z.1 _ _ t.top)) ?_ ?_
    · rintro i y H' hi ⟨s1, ps, h1, l1, a1, nd1, np1⟩
      have il := (List.getElem?_eq_some_iff.mp hi).1
      rw [lr] at il
      refine ⟨rfl, yes_of ?_⟩
      refine ⟨one_le, fun l hl => ?_⟩
      obtain ⟨H2, e2, s2, f2⟩ := gen H' hl (.lst [.non])
      rw [e2]
      clear e2
      have s12 := s1.trans s2
      refine ⟨_, rfl, c, _, rfl, .inl (SqL.of (s12 _ _ t.top)), l, _, _, rfl, rfl, f2, by omega, by omega, ?_, fun p hp => ?_⟩
      · show 1 * ((rs.map V.ref).length : Int).toNat ≤ sizeLine
        rw [lr]
        exact Nat.le_of_lt (small1000 (by omega))
      · have eq : (List.replicate ((rs.map V.ref).length : Int).toNat [V.non]).flatten = List.replicate n V.non := by
          rw [lr, Int.toNat_natCast, rep_non]
        rw [eq]
        obtain ⟨H3, e3, s3, f3⟩ := gen H2 hp (.lst (List.replicate n V.non))
        rw [e3]
        clear e3
        have s23 := s2.trans s3
        have hpD : D ≠ p := ne_of_none (s2 _ _ h1) hp
        have pps : p ∉ ps := fun z => by
          have := s2 _ _ (a1 p z).2
          rw [hp] at this
          cases this
        have hp0 : H p = none := s12.free hp
        refine ⟨ps.map V.ref, s23 _ _ h1, ?_, ?_, ps ++ [p], ?_, by rw [List.length_append, l1]; rfl, ?_, ?_, ?_⟩
        · rw [List.length_map]
          exact small1000 (by omega)
        · intro b o e
          rw [upd_ne (ne_of_none e hD)]
          exact s23 b o (s1 b o e)
        · rw [upd_same, List.map_append]
          rfl
        · intro r hr
          rcases List.mem_append.mp hr with hr | hr
          · have rD : r ≠ D := fun z => np1 (by rw [← z]; exact hr)
            rw [upd_ne rD]
            exact ⟨(a1 r hr).1, s23 _ _ (a1 r hr).2⟩
          · rw [List.mem_singleton] at hr
            subst hr
            rw [upd_ne hpD.symm]
            exact ⟨hp0, f3⟩
        · rw [List.nodup_append]
          refine ⟨nd1, by simp, fun a ha b hb => ?_⟩
          rw [List.mem_singleton] at hb
          subst hb
          exact fun z => pps (by rw [← z]; exact ha)
        · rw [List.mem_append, List.mem_singleton]
          rintro (z | z)
          · exact np1 z
          · exact hpD z
    · rintro H1 ⟨s1, ps, h1, l1, a1, nd1, np1⟩
      rw [lr] at l1
      have M0 : Mat H1 D ps n (ent kss 0 0) := ⟨h1, l1, fun i r hr => by
        rw [(a1 r (List.mem_of_getElem? hr)).2, rep_range, List.map_congr_left fun j _ => (ent_zero kss i j).symm], nd1, np1⟩
      have new : ∀ r ∈ ps, H r = none := fun r hr => (a1 r hr).1
      have keep : ∀ {H' : Hp} {r : Addr} {o : HO}, Same H H' → r ∈ ps → Same H (upd H' r o) := fun s' hr b u e => by
        rw [upd_ne (ne_of_none e (new _ hr))]
        exact s' b u e
      refine ⟨_, rfl, c, _, rfl, SqL.of (s1 _ _ t.top), ?_⟩
      refine for_it (walk_enum (K := K) (a := c) (xs := rs.map V.ref)) (fun m σ H' => ∃ a b d e : Option V, σ = [some (.ref c), some (.ref D), none, a, b, d, e] ∧ Same H H' ∧ Mat H' D ps n (ent kss m 0))
        ⟨none, none, none, none, rfl, s1, M0⟩ (fun m σ H' _ z => by
          obtain ⟨_, _, _, _, _, s', _⟩ := z
          exact SqL.of (s' _ _ t.top)) ?_ ?_
      · rintro m y σ H' H'' hm ⟨a, b, d, e, rfl, s', M⟩ ⟨A2, x1, x2, rfl, nA, rfl, e1, e2⟩
        rw [lr] at hm
        have e1' : x1 = .int (m : Nat) := (Option.some.inj e1).symm
        subst e1'
        obtain ⟨r, ks, c1, c2, c3⟩ := t.at (i := m) (by omega)
        have e2' : x2 = .ref r := by
          have e3 : (rs.map V.ref)[m]? = some x2 := e2
          rw [List.getElem?_map, c1] at e3
          exact (Option.some.inj e3).symm
        subst e2'
        obtain ⟨lk, bk⟩ := fine _ _ c2
        have s2 := s'.trans (same_new (o := .tup [.int (m : Nat), .ref r]) nA)
        have M2 := M.same (same_new (o := .tup [.int (m : Nat), .ref r]) nA)
        refine ⟨A2, [.int (m : Nat), .ref r], rfl, SqT.of upd_same, rfl, _, _, rfl, _, _, rfl, rfl, ?_⟩
        refine ⟨_, rfl, r, _, rfl, SqL.of (s2 _ _ c3), ?_⟩
        have lks : (ks.map V.int).length = m := by rw [List.length_map]; exact lk
        refine for_it (walk_enum (K := K) (a := r) (xs := ks.map V.int)) (fun j σ H' => ∃ d e : Option V, σ = [some (.ref c), some (.ref D), none, some (.int (m : Nat)), some (.ref r), d, e] ∧ Same H H' ∧ Mat H' D ps n (ent kss m j))
          ⟨d, e, rfl, s2, M2⟩ (fun j σ H' _ z => by
            obtain ⟨_, _, _, s', _⟩ := z
            exact SqL.of (s' _ _ c3)) ?_ ?_
        · rintro j y σ H3 H4 hj ⟨d, e, rfl, s3, M3⟩ ⟨A3, z1, z2, rfl, nA3, rfl, g1, g2⟩
          rw [lks] at hj
          have g1' : z1 = .int (j : Nat) := (Option.some.inj g1).symm
          subst g1'
          have jl : j < ks.length := by omega
          have ek : tieN kss m j = ks[j] := by
            have eA : kss.getD (max m j) [] = ks := by rw [List.getD_eq_getElem?_getD, Nat.max_eq_left (by omega), c2]; rfl
            unfold tieN
            rw [eA, Nat.min_eq_right (by omega), List.getD_eq_getElem?_getD, List.getElem?_eq_getElem jl]
            rfl
          have g2' : z2 = .int (tieN kss m j) := by
            have e3 : (ks.map V.int)[j]? = some z2 := g2
            rw [List.getElem?_map, List.getElem?_eq_getElem jl] at e3
            rw [ek]
            exact (Option.some.inj e3).symm
          subst g2'
          have s4 := s3.trans (same_new (o := .tup [.int (j : Nat), .int (tieN kss m j)]) nA3)
          have M4 := M3.same (same_new (o := .tup [.int (j : Nat), .int (tieN kss m j)]) nA3)
          refine ⟨A3, [.int (j : Nat), .int (tieN kss m j)], rfl, SqT.of upd_same, rfl, _, _, rfl, _, _, rfl, rfl, ?_⟩
          generalize upd H3 A3 (.tup [.int (j : Nat), .int (tieN kss m j)]) = H4 at s4 M4
          obtain ⟨rj, j1, j2⟩ := M4.at (i := j) (by omega)
          have M5 := M4.set (v := .int (tieN kss m j)) j1 (by omega : m < n)
          refine ⟨_, rfl, _, rfl, _, rfl, D, _, _, _, rfl, rfl, SqL.of M4.top, at_of (j := j) (v := V.ref rj) rfl (by rw [List.getElem?_map, j1]; rfl), _, rfl, rj, _, _, m, rfl, rfl, j2, ?_, ?_⟩
          · rw [List.length_map, List.length_range]
            exact ixN_nat (by omega)
          · have s5 : Same H _ := keep (o := .lst (((List.range n).map (ent kss m j j)).set m (.int (tieN kss m j)))) s4 (List.mem_of_getElem? j1)
            generalize upd H4 rj (.lst (((List.range n).map (ent kss m j j)).set m (.int (tieN kss m j)))) = H5 at s5 M5
            obtain ⟨rm, m1, m2⟩ := M5.at (i := m) (by omega)
            have M6 := M5.set (v := .int (tieN kss m j)) m1 (by omega : j < n)
            have s6 : Same H _ := keep (o := .lst (((List.range n).map (fun b => if m = j ∧ b = m then V.int (tieN kss m j) else ent kss m j m b)).set j (.int (tieN kss m j)))) s5 (List.mem_of_getElem? m1)
            refine ⟨_, rfl, _, rfl, _, rfl, D, _, _, _, rfl, rfl, SqL.of M5.top, at_of (j := m) (v := V.ref rm) rfl (by rw [List.getElem?_map, m1]; rfl), _, rfl, rm, _, _, j, rfl, rfl, m2, ?_, ?_⟩
            · rw [List.length_map, List.length_range]
              exact ixN_nat (by omega)
            · rw [← ent_next kss hj]
              exact ⟨_, _, rfl, s6, M6⟩
        · rintro σ H3 ⟨d, e, rfl, s3, M3⟩
          rw [lks, ent_row] at M3
          exact ⟨_, _, _, _, rfl, s3, M3⟩
      · rintro σ H' ⟨a, b, d, e, rfl, s', M⟩
        rw [lr] at M
        refine ⟨_, rfl, q D ps H' s' ?_ new⟩
        rw [hn]
        exact M.congr fun i j hi hj => ent_all kss n i j hi hj

abbrev sAreAlike : Stmt := topS 30
abbrev nAreAlike : List Str := ["ties", "one", "other", "third", "row"]
theorem scAreAlike : FnScope nAreAlike ["ties", "one", "other"] (defScope sAreAlike) := ⟨rfl, rfl, rfl, by decide +kernel, rfl, by decide +kernel, by decide +kernel⟩
theorem ok_areAlike {f : Addr} {fd : FuncData} (F : Fun K "are_alike" "are_alike" sAreAlike f fd) (T : Bi mg) : FnOk P w K mg base CX0 1 f fd ["ties", "one", "other"] spAreAlike := by
  refine F.ok scAreAlike (fun vs H Q E h => ?_) (fun cdv A outer s H vs Q E hr h => ?_)
  · obtain ⟨m, ps, kss, a, b, rfl, _⟩ := h
    rfl
  · obtain ⟨m, ps, kss, a, b, rfl, M, n100, al, bl, ab, q⟩ := h
    refine ⟨_, pss_cons (ps_for PassesOwn.never rfl (pi_enum (by rfl) T.enumerate (pa_cons (pv 0) pa_nil)) (pg_tup rfl (pgs_cons (pg_name (i := 3) scAreAlike.nd rfl (Or.inl rfl)) (pgs_cons (pg_name (i := 4) scAreAlike.nd rfl (Or.inl rfl)) pgs_nil)))
        (pss_one (ps_if (PW.pt (pw_and (pt_cmpR op_ne (pe_ix ix_list (pv 4) (pv 1) (fun _ _ => rfl)) (pe_ix ix_list (pv 4) (pv 2) (fun _ _ => rfl)) (nomark _)) (pw_and (pt_cmpR op_ne (pv 3) (pv 1) (nomark _)) (pw_and1 (pt_cmpR op_ne (pv 3) (pv 2) (nomark _))))))
          (pss_one (ps_ret pe_bl)) pss_nil)))
      (pss_one (ps_ret pe_bl)), ?_⟩
    have lp : (ps.map V.ref).length = kss.length := by rw [List.length_map, M.len]
    refine ⟨_, rfl, m, _, rfl, SqL.of M.top, ?_⟩
    refine for_it (walk_enum (K := K) (a := m) (xs := ps.map V.ref)) (fun i σ H' => ∃ x y : Option V, σ = [some (.ref m), some (.int a), some (.int b), x, y] ∧ Same H H' ∧ ∀ j, j < i → (j == a || j == b || decide (tieN kss j a = tieN kss j b)) = true)
      ⟨none, none, rfl, Same.refl _, fun p hp => absurd hp (Nat.not_lt_zero p)⟩ (fun i σ H' _ z => by
        obtain ⟨_, _, _, s', _⟩ := z
        exact SqL.of (s' _ _ M.top)) ?_ ?_
    · rintro i y σ H1 H2 hi ⟨x, z, rfl, s1, yes⟩ ⟨A2, x1, x2, rfl, nA, rfl, e1, e2⟩
      rw [lp] at hi
      have e1' : x1 = .int (i : Nat) := (Option.some.inj e1).symm
      subst e1'
      obtain ⟨r, c1, c2⟩ := M.at hi
      have e2' : x2 = .ref r := by
        have e3 : (ps.map V.ref)[i]? = some x2 := e2
        rw [List.getElem?_map, c1] at e3
        exact (Option.some.inj e3).symm
      subst e2'
      have s2 := s1.trans (same_new (o := .tup [.int (i : Nat), .ref r]) nA)
      refine ⟨A2, [.int (i : Nat), .ref r], rfl, SqT.of upd_same, rfl, _, _, rfl, _, _, rfl, rfl, ?_⟩
      generalize upd H1 A2 (.tup [.int (i : Nat), .ref r]) = H2 at s2
      have next : (i == a || i == b || decide (tieN kss i a = tieN kss i b)) = true → ∃ x y : Option V, [some (V.ref m), some (.int a), some (.int b), some (.int (i : Nat)), some (.ref r)] = [some (.ref m), some (.int a), some (.int b), x, y] ∧ Same H H2 ∧ ∀ j, j < i + 1 → (j == a || j == b || decide (tieN kss j a = tieN kss j b)) = true := fun z =>
        ⟨_, _, rfl, s2, fun p hp => by
          by_cases c : p = i
          · subst c
            exact z
          · exact yes p (by omega)⟩
      have tz : ∀ x, x < kss.length → atI ((List.range kss.length).map (tieV kss i)) ((x : Nat) : Int) = some (tieV kss i x) := fun x hx => atI_nat (by rw [List.getElem?_map, List.getElem?_range hx]; rfl)
      refine ⟨_, rfl, _, rfl, r, _, _, _, rfl, rfl, SqL.of (s2 _ _ c2), tz a al, _, rfl, _, rfl, r, _, _, _, rfl, rfl, SqL.of (s2 _ _ c2), tz b bl, ty_scal kss i a b, _, rfl, ?_⟩
      have dn : ∀ x : Nat, decide (V.int (i : Nat) = V.int (x : Nat)) = (i == x) := fun x => by
        by_cases c : i = x
        · subst c; simp
        · have : ¬ ((i : Nat) : Int) = (x : Nat) := by omega
          simp [c, this]
      by_cases ia : i = a
      · have nn := next (by rw [ia]; simp)
        refine ite2 (fun _ => ?_) (fun _ => iteF nn)
        refine ⟨_, rfl, _, rfl, rfl, _, rfl, ?_⟩
        rw [dn, ia]
        simp only [beq_self_eq_true, Bool.not_true]
        rw [ia] at nn
        exact iteF (iteF nn)
      · by_cases ib : i = b
        · have nn := next (by rw [ib]; simp)
          refine ite2 (fun _ => ?_) (fun _ => iteF nn)
          refine ⟨_, rfl, _, rfl, rfl, _, rfl, ?_⟩
          rw [dn]
          have : (i == a) = false := by simpa using ia
          rw [this]
          refine iteT ⟨_, rfl, _, rfl, rfl, _, rfl, ?_⟩
          rw [dn]
          have : (i == b) = true := by simpa using ib
          rw [this]
          exact iteF nn
        · have eA : (i == a) = false := by simpa using ia
          have eB : (i == b) = false := by simpa using ib
          rw [tyV_ne ia ib]
          by_cases c3 : tieN kss i a = tieN kss i b
          · rw [decide_eq_true c3]
            exact iteF (iteF (next (by rw [c3]; simp)))
          · rw [decide_eq_false c3]
            refine iteT ⟨_, rfl, _, rfl, rfl, _, rfl, ?_⟩
            rw [dn, eA]
            refine iteT ⟨_, rfl, _, rfl, rfl, _, rfl, ?_⟩
            rw [dn, eB]
            refine iteT ?_
            have ef : alikeB kss a b = false := by
              cases h : alikeB kss a b with
              | false => rfl
              | true =>
                have := List.all_eq_true.mp h i (List.mem_range.mpr hi)
                rw [eA, eB] at this
                simp [c3] at this
            rw [ef] at q
            exact q _ s2
    · rintro σ H1 ⟨x, z, rfl, s1, yes⟩
      have ea : alikeB kss a b = true := List.all_eq_true.mpr fun j hj => yes j (by rw [lp]; exact List.mem_range.mp hj)
      rw [ea] at q
      exact q H1 s1

end
section
variable {P : Program} {w : World} {K : PySem.W.Frag} {mg : Str → Option Value} {base : Heap}
section
variable {P : Program} {w : World} {K : PySem.W.Frag} {mg : Str → Option Value} {base : Heap}
abbrev sCompWith : Stmt := topS 29
abbrev nCompWith : List Str := ["ties", "person", "row"]
theorem scCompWith : FnScope nCompWith ["ties"] (defScope sCompWith) := ⟨rfl, rfl, rfl, by decide +kernel, rfl, by decide +kernel, by decide +kernel⟩
theorem ok_compWith {f : Addr} {fd : FuncData} (F : Fun K "company_with" "company_with" sCompWith f fd) (T : Bi mg) : FnOk P w K mg base CX0 1 f fd ["ties"] spCompWith := by
  refine F.ok scCompWith (fun vs H Q E h => ?_) (fun cdv A outer s H vs Q E hr h => ?_)
  · obtain ⟨m, ps, kss, k, rfl, _⟩ := h
    rfl
  · obtain ⟨m, ps, kss, k, rfl, M, fine, n100, q⟩ := h
    refine ⟨_, (pss_one (ps_ret (pe_lc (own := [("person", 1), ("row", 2)]) (g := (gTup K 2 (gCons (gName 1) (gCons (gName 2) gNil)))) (tt := tYes) (te := (tSl (rSlL K) (tVar 2) tNoPart (tPart (tVar 1)))) rfl scCompWith.nd (pi_enum (by rfl) T.enumerate (pa_cons (pv 0) pa_nil))
            (blkOk_by (N := nCompWith) (sc := (defScope sCompWith)) (by decide +kernel)) (fun _ _ _ _ _ => (pg_tup rfl (pgs_cons (pg_name (i := 1) scCompWith.nd rfl (Or.inl rfl)) (pgs_cons (pg_name (i := 2) scCompWith.nd rfl (Or.inl rfl)) pgs_nil)))) (fun _ _ _ _ _ => by exact pts_nil)
            (fun _ _ _ _ _ => by exact (pe_slice sl_list (pv 2) po_none (po_some (pv 1))))))), ?_⟩
    obtain ⟨n, hn⟩ : ∃ n, kss.length = n := ⟨_, rfl⟩
    have lp : (ps.map V.ref).length = n := by rw [List.length_map, M.len, hn]
    refine ⟨_, rfl, m, _, rfl, SqL.of M.top, fun D hD => ?_⟩
    refine lc_objs (walk_enum (K := K) (a := m) (xs := ps.map V.ref)) (fun i => .lst ((kss.getD i []).map V.int)) hD (by rw [lp, sizeLine_eq]; omega) (fun H' s' => SqL.of (s' _ _ M.top)) ?_ ?_
    · rintro i x H2 H3 N hi s2 ⟨T2, x1, x2, rfl, nT, rfl, e1, e2⟩ hN
      rw [lp] at hi
      cases e1
      obtain ⟨r, r1, r2⟩ := M.at (i := i) (by omega)
      have e2' : (ps.map V.ref)[i]? = some x2 := e2
      rw [List.getElem?_map, r1] at e2'
      cases e2'
      obtain ⟨H4, e4, s4, f4⟩ := gen H2 nT (.tup [.int (i : Nat), .ref r])
      rw [e4]
      clear e4
      refine ⟨T2, _, rfl, SqT.of f4, rfl, _, _, rfl, _, _, rfl, rfl, rfl, ?_⟩
      refine ⟨_, rfl, _, rfl, _, rfl, r, _, rfl, SqL.of (s4 _ _ (s2 _ _ r2)), fun c hc => ?_⟩
      obtain ⟨H5, e5, s5, f5⟩ := gen H4 hc (.lst (cutV ((List.range kss.length).map (tieV kss i)) none (some ((i : Nat) : Int))))
      rw [e5]
      refine hN H5 c (s4.trans s5) (s4.free hc) ?_
      rw [f5, cut_to (by rw [List.length_map, List.length_range]; omega)]
      congr 2
      have lk := fine.row_len (i := i) (by omega)
      apply List.ext_getElem
      · rw [List.length_take, List.length_map, List.length_range, List.length_map, lk]
        omega
      · intro j h1 h2
        rw [List.length_map, lk] at h2
        rw [List.getElem_take, List.getElem_map, List.getElem_range, List.getElem_map]
        unfold tieV
        rw [if_neg (by omega)]
        unfold tieN
        rw [Nat.max_eq_left (by omega), Nat.min_eq_right (by omega), List.getD_eq_getElem?_getD, List.getElem?_eq_getElem (by rw [lk]; exact h2)]
        rfl
    · intro H2 rs s2 R
      rw [lp, ← hn] at R
      exact q D rs H2 s2 hD R

abbrev sCplK : Stmt := topS 19
abbrev nCplK : List Str := ["kinds", "many", "value"]
theorem scCplK : FnScope nCplK ["kinds", "many", "value"] (defScope sCplK) := ⟨rfl, rfl, rfl, by decide +kernel, rfl, by decide +kernel, by decide +kernel⟩
theorem ok_cplK {f : Addr} {fd : FuncData} (F : Fun K "is_couple_with_kind" "is_couple_with_kind" sCplK f fd) (T : Bi mg) (Uisbelow : Use P w K mg base "is_below" ["value", "bound"] (spBelow K) 2) (Uiscouple : Use P w K mg base "is_couple" ["many", "value"] (spCoupleD K) 3) : FnOk P w K mg base CX0 4 f fd ["kinds", "many", "value"] (spCplK K) := by
  refine F.ok scCplK (fun vs H Q E h => ?_) (fun cdv A outer s H vs Q E hr h => ?_)
  · obtain ⟨k, n, x, d, rfl, _⟩ := h
    rfl
  · obtain ⟨k, n, x, d, rfl, hd, q⟩ := h
    refine ⟨_, (pss_cons (ps_if (PW.pt (pw_or (pt_not (pt_val (pe_callB call_isi (by rfl) T.isinstance (by decide +kernel) (pa_cons (pv 2) (pa_cons (pe_bltn (v := .ty "tuple") (by rfl) T.tuple (by decide +kernel) rfl) pa_nil))))) (pw_or1 (pt_cmpR op_ne (pe_callB call_len_seq (by rfl) T.len PySem.boot_len (pa_cons (pv 2) pa_nil)) pe_int (nomark _)))))
        (pss_one (ps_ret pe_bl)) pss_nil)
      (pss_one (ps_ret (pe_and (pe_use Uiscouple hr (by rfl) (pa_cons (pv 1) (pa_cons (pe_slice sl_tup (pv 2) po_none (po_some pe_int)) pa_nil))) (pe_one (pe_use Uisbelow (hr.mono (by decide)) (by rfl) (pa_cons (pe_ix ix_tup (pv 2) pe_int (fun _ _ => rfl)) (pa_cons (pv 0) pa_nil)))))))), ?_⟩
    refine ⟨_, rfl, _, _, _, _, _, rfl, .ty "tuple", hd.ty, kit_tuple d, _, rfl, ?_⟩
    by_cases e : ∃ ds, d = .tuple ds
    · obtain ⟨ds, rfl⟩ := e
      cases hd with
      | tup ht hx =>
        rename_i t xs
        have lx := hx.length
        refine iteF ⟨_, rfl, t, _, rfl, .inr (SqT.of ht), rfl, _, rfl, ?_⟩
        by_cases l3 : ds.length = 3
        · match ds, l3, xs, hx with
          | [y, z, u], _, [vy, vz, vu], .cons hy (.cons hz (.cons hu .nil)) =>
            refine iteF ?_
            refine ⟨_, rfl, _, rfl, 2, rfl, t, _, rfl, SqT.of ht, ?_, fun p hp => ?_⟩
            · rintro ⟨_, h2⟩
              rw [show HT.sIx [vy, vz, vu].length [vy, vz, vu].length (some 2) = min 2 3 from HT.sIx_nat _ _ 2] at h2
              cases h2
            · have ec : cutV [vy, vz, vu] none (some 2) = [vy, vz] := cut_to (xs := [vy, vz, vu]) (i := 2) (by show 2 ≤ 3; decide)
              rw [ec]
              obtain ⟨H1, e1, s1, f1⟩ := gen H hp (.tup [vy, vz])
              rw [e1]
              clear e1
              refine ⟨n, _, .tuple [y, z], rfl, .tup f1 (.cons (hy.same s1) (.cons (hz.same s1) .nil)), _, rfl, ?_⟩
              have q' := q H1 s1
              have cc : cplKB n k (.tuple [y, z, u]) = (cplD n (.tuple [y, z]) && below k u) := rfl
              rw [cc] at q'
              cases bc : cplD n (.tuple [y, z]) with
              | false =>
                rw [bc] at q'
                exact iteF q'
              | true =>
                rw [bc] at q'
                exact iteT ⟨_, rfl, t, _, _, _, rfl, rfl, SqT.of (s1 _ _ ht), at_of (j := 2) rfl rfl, _, rfl, vu, u, k, rfl, hu.same s1, q'⟩
        · have ne : ¬ ((xs.length : Nat) : Int) = 3 := by omega
          have ez : decide (V.int ((xs.length : Nat) : Int) = V.int 3) = false := decide_eq_false fun z => ne (by injection z)
          rw [ez]
          refine iteT ?_
          have cc : cplKB n k (.tuple ds) = false := by
            match ds, l3 with
            | [], _ => rfl
            | [a], _ => rfl
            | [a, b], _ => rfl
            | a :: b :: c :: e :: l, _ => rfl
          have q' := q H (Same.refl _)
          rw [cc] at q'
          exact q'
    · have z : isTup d = false ∧ cplKB n k d = false := by
        cases d with
        | tuple ds => exact (e ⟨ds, rfl⟩).elim
        | _ => exact ⟨rfl, rfl⟩
      rw [z.1]
      refine iteT (iteT ?_)
      have q' := q H (Same.refl _)
      rw [z.2] at q'
      exact q'

abbrev sDeedNow : Stmt := topS 35
abbrev nDeedNow : List Str := ["kinds", "ties", "value", "one", "other", "kind"]
theorem scDeedNow : FnScope nDeedNow ["kinds", "ties", "value"] (defScope sDeedNow) := ⟨rfl, rfl, rfl, by decide +kernel, rfl, by decide +kernel, by decide +kernel⟩
theorem ok_deedNow {f : Addr} {fd : FuncData} (F : Fun K "is_deed_now" "is_deed_now" sDeedNow f fd) (T : Bi mg) (Uiscouplewithkind : Use P w K mg base "is_couple_with_kind" ["kinds", "many", "value"] (spCplK K) 4) (Uarealike : Use P w K mg base "are_alike" ["ties", "one", "other"] spAreAlike 1) : FnOk P w K mg base CX0 5 f fd ["kinds", "ties", "value"] (spDeedNow K) := by
  refine F.ok scDeedNow (fun vs H Q E h => ?_) (fun cdv A outer s H vs Q E hr h => ?_)
  · obtain ⟨k, m, x, d, ps, kss, rfl, _⟩ := h
    rfl
  · obtain ⟨k, m, x, d, ps, kss, rfl, M, n40, hd, q⟩ := h
    refine ⟨_, (pss_cons (ps_if (pt_not (pt_val (pe_use Uiscouplewithkind hr (by rfl) (pa_cons (pv 0) (pa_cons (pe_callB call_len_seq (by rfl) T.len PySem.boot_len (pa_cons (pv 1) pa_nil)) (pa_cons (pv 2) pa_nil))))))
        (pss_one (ps_ret pe_bl)) pss_nil)
      (pss_cons (ps_asg (pv 2)
          (pg_tup rfl (pgs_cons (pg_name (i := 3) scDeedNow.nd rfl (Or.inl rfl)) (pgs_cons (pg_name (i := 4) scDeedNow.nd rfl (Or.inl rfl)) (pgs_cons (pg_name (i := 5) scDeedNow.nd rfl (Or.inl rfl)) pgs_nil)))))
      (pss_one (ps_ret (pe_and (pe_cmpR op_ne (pv 5) (pe_ix ix_list (pe_ix ix_list (pv 1) (pv 3) (fun _ _ => rfl)) (pv 4) (fun _ _ => rfl)) (nomark _)) (pe_one (pe_use Uarealike (hr.mono (by decide)) (by rfl) (pa_cons (pv 1) (pa_cons (pv 3) (pa_cons (pv 4) pa_nil)))))))))), ?_⟩
    obtain ⟨n, hn⟩ : ∃ n, kss.length = n := ⟨_, rfl⟩
    have lp : (ps.map V.ref).length = n := by rw [List.length_map, M.len, hn]
    refine ⟨_, rfl, _, rfl, m, _, rfl, .inl (SqL.of M.top), _, rfl, ?_⟩
    rw [lp]
    refine ⟨k, (n : Nat), x, d, rfl, hd, fun H' s1 => ⟨_, rfl, ?_⟩⟩
    have q' := q H' s1
    cases bk : cplKB (n : Nat) k d with
    | false =>
      refine iteT ?_
      rw [← hn] at bk
      rw [cplK_not bk] at q'
      exact q'
    | true =>
      refine iteF ?_
      obtain ⟨a, b, v, rfl, ab, bn, v0, v1⟩ := cplK_nat bk
      have hd1 := hd.same s1
      cases hd1 with
      | tup ht hx =>
        rename_i t xs
        cases hx with
        | cons hxa hx =>
          cases hxa
          cases hx with
          | cons hxb hx =>
            cases hxb
            cases hx with
            | cons hxz hx =>
              cases hx
              cases hxz
              refine ⟨_, rfl, t, _, rfl, SqT.of ht, rfl, _, _, rfl, _, _, rfl, _, _, rfl, rfl, ?_⟩
              have M1 := M.same s1
              obtain ⟨ra, a1, a2⟩ := M1.at (i := a) (by omega)
              refine ⟨_, rfl, _, rfl, _, rfl, m, _, _, _, rfl, rfl, SqL.of M1.top, atI_nat (by rw [List.getElem?_map, a1]; rfl), _, rfl, ra, _, _, _, rfl, rfl, SqL.of a2, atI_nat (j := b) (v := .int (tieN kss a b)) ?_, rfl, _, rfl, ?_⟩
              · rw [List.getElem?_map, List.getElem?_range (by omega)]
                show some (tieV kss a b) = _
                unfold tieV
                rw [if_neg (by omega)]
              · have fd : decide (V.int v = V.int (tieN kss a b)) = decide (v = tieN kss a b) := decide_eq_decide.mpr ⟨fun z => by injection z, fun z => by rw [z]⟩
                rw [fd]
                have dB := deed_of (k := k) (kss := kss) (v := v) ab (by omega : b < kss.length)
                rw [below_of v0 v1, Bool.true_and] at dB
                rw [dB] at q'
                cases e0 : decide (v = tieN kss a b) with
                | true =>
                  rw [e0] at q'
                  exact iteF q'
                | false =>
                  rw [e0] at q'
                  refine iteT ⟨_, rfl, _, rfl, _, rfl, m, ps, kss, a, b, rfl, M1, by omega, by omega, by omega, by omega, fun H2 s2 => ?_⟩
                  have q2 := q H2 (s1.trans s2)
                  rw [dB, e0] at q2
                  exact q2

abbrev sFollowed : Stmt := topS 36
abbrev nFollowed : List Str := ["kinds", "company", "road", "ties", "place", "deed", "one", "other", "kind"]
theorem scFollowed : FnScope nFollowed ["kinds", "company", "road"] (defScope sFollowed) := ⟨rfl, rfl, rfl, by decide +kernel, rfl, by decide +kernel, by decide +kernel⟩
theorem ok_followed {f : Addr} {fd : FuncData} (F : Fun K "followed" "followed" sFollowed f fd) (T : Bi mg) (Utiesof : Use P w K mg base "ties_of" ["company"] spTies 1) (Ucompanywith : Use P w K mg base "company_with" ["ties"] spCompWith 1) (Uisdeednow : Use P w K mg base "is_deed_now" ["kinds", "ties", "value"] (spDeedNow K) 5) : FnOk P w K mg base CX0 6 f fd ["kinds", "company", "road"] (spFollowed K) := by
  refine F.ok scFollowed (fun vs H Q E h => ?_) (fun cdv A outer s H vs Q E hr h => ?_)
  · obtain ⟨k, c, r, rs, kss, xs, ds, rfl, _⟩ := h
    rfl
  · obtain ⟨k, c, r, rs, kss, xs, ds, rfl, t, fine, n40, hr0, hd, big, q⟩ := h
    refine ⟨_, (pss_cons (ps_set (i := 3) scFollowed.nd rfl (Or.inl rfl) (pe_use Utiesof (hr.mono (by decide)) (by rfl) (pa_cons (pv 1) pa_nil)))
      (pss_cons (ps_for PassesOwn.never rfl (pi_enum (by rfl) T.enumerate (pa_cons (pv 2) pa_nil)) (pg_tup rfl (pgs_cons (pg_name (i := 4) scFollowed.nd rfl (Or.inl rfl)) (pgs_cons (pg_name (i := 5) scFollowed.nd rfl (Or.inl rfl)) pgs_nil)))
        (pss_cons (ps_if (pt_not (pt_val (pe_use Uisdeednow hr (by rfl) (pa_cons (pv 0) (pa_cons (pv 3) (pa_cons (pv 5) pa_nil))))))
          (pss_one (ps_ret (pe_tup (pa_cons (pe_use Ucompanywith (hr.mono (by decide)) (by rfl) (pa_cons (pv 3) pa_nil)) (pa_cons (pv 4) pa_nil))))) pss_nil)
        (pss_cons (ps_asg (pv 5)
            (pg_tup rfl (pgs_cons (pg_name (i := 6) scFollowed.nd rfl (Or.inl rfl)) (pgs_cons (pg_name (i := 7) scFollowed.nd rfl (Or.inl rfl)) (pgs_cons (pg_name (i := 8) scFollowed.nd rfl (Or.inl rfl)) pgs_nil)))))
        (pss_cons (ps_asg (pv 8)
            (pg_sub (pe_ix ix_list (pv 3) (pv 6) (fun _ _ => rfl)) (pv 7) set_list))
        (pss_one (ps_asg (pv 8)
            (pg_sub (pe_ix ix_list (pv 3) (pv 7) (fun _ _ => rfl)) (pv 6) set_list)))))))
      (pss_one (ps_ret (pe_tup (pa_cons (pe_use Ucompanywith (hr.mono (by decide)) (by rfl) (pa_cons (pv 3) pa_nil)) (pa_cons (pe_callB call_len_seq (by rfl) T.len PySem.boot_len (pa_cons (pv 2) pa_nil)) pa_nil))))))), ?_⟩
    refine ⟨_, rfl, c, rs, kss, k, rfl, t, fine, by omega, fun m ps H1 s1 M newR => ?_⟩
    obtain ⟨n, hn⟩ : ∃ n, kss.length = n := ⟨_, rfl⟩
    have hdat : ∀ {H' : Hp}, Same H H' → H' r = some (.lst xs) ∧ Dts K H' xs ds := fun s => ⟨s _ _ hr0, Dts.same s ds _ hd⟩
    have lxd := hd.length
    refine ⟨_, rfl, r, xs, rfl, SqL.of (s1 _ _ hr0), ?_⟩
    refine for_it (walk_enum (K := K) (a := r) (xs := xs)) (fun i σ H' => ∃ (pv dv ov tv kv : Option V) (ks : List (List Int)), σ = [some (.int k), some (.ref c), some (.ref r), some (.ref m), pv, dv, ov, tv, kv] ∧ Same H H' ∧ Mat H' m ps ks.length (tieV ks) ∧ Fine k ks ∧ ks.length = n ∧ followK k kss ds 0 = followK k ks (ds.drop i) i)
      ⟨_, _, _, _, _, kss, rfl, s1, M, fine, hn, rfl⟩ (fun i σ H' _ z => by
        obtain ⟨_, _, _, _, _, _, _, s', _⟩ := z
        exact SqL.of (s' _ _ hr0)) ?_ ?_
    · rintro i y σ H2 H3 hi ⟨pv, dv, ov, tv, kv, ks, rfl, s2, M2, f2, l2, fo⟩ ⟨T2, x1, x2, rfl, nT, rfl, e1, e2⟩
      cases e1
      have e2' : xs[i]? = some x2 := e2
      obtain ⟨d, di, dd⟩ := hd.get e2'
      obtain ⟨H4, e4, s4, f4⟩ := gen H2 nT (.tup [.int (i : Nat), x2])
      rw [e4]
      clear e4
      have s24 := s2.trans s4
      have dr : ds.drop i = d :: ds.drop (i + 1) := by
        have hl := (List.getElem?_eq_some_iff.mp di)
        rw [List.drop_eq_getElem_cons hl.1, hl.2]
      rw [dr, follow_cons] at fo
      refine ⟨T2, _, rfl, SqT.of f4, rfl, _, _, rfl, _, _, rfl, rfl, ?_⟩
      refine ⟨_, rfl, _, rfl, _, rfl, k, m, x2, d, ps, ks, rfl, M2.same s4, by omega, dd.same s24, fun H5 s5 => ⟨_, rfl, ?_⟩⟩
      have M5 := (M2.same s4).same s5
      have s25 := s24.trans s5
      cases hB : deedB k ks d with
      | false =>
        rw [hB, if_neg (by decide)] at fo
        refine iteT ⟨_, rfl, m, ps, ks, k, rfl, M5, f2, by omega, fun p qs H6 s6 np R => ?_⟩
        refine ⟨_, rfl, (by show 2 ≤ sizeLine; decide), fun T3 hT3 => ?_⟩
        obtain ⟨H7, e7, s7, f7⟩ := gen H6 hT3 (.tup [.ref p, .int (i : Nat)])
        rw [e7]
        clear e7
        have R7 := R.same s7
        refine q T3 p qs H7 (s25.trans (s6.trans s7)) (by rw [f7, fo]) (by rw [fo]; exact R7.tab rfl) (s25.free np) R.out fun x hx => s25.free (R.new x hx)
      | true =>
        rw [hB, if_pos rfl] at fo
        refine iteF ?_
        obtain ⟨a, b, v, rfl, ab, bn, v0, v1, _, al⟩ := deed_nat hB
        have st := deed_step hB
        have d5 := dd.same s25
        cases d5 with
        | tup ht hx =>
          rename_i t zs
          cases hx with
          | cons hxa hx =>
            cases hxa
            cases hx with
            | cons hxb hx =>
              cases hxb
              cases hx with
              | cons hxz hx =>
                cases hxz
                cases hx
                refine ⟨_, rfl, t, _, rfl, SqT.of ht, rfl, _, _, rfl, _, _, rfl, _, _, rfl, rfl, ?_⟩
                obtain ⟨ra, a1, a2⟩ := M5.at (i := a) (by omega)
                obtain ⟨rb, b1, b2⟩ := M5.at (i := b) (by omega)
                obtain ⟨ya, yb, y1, y2, y3, y4, M6⟩ := M5.tie (v := v) f2 ab bn a1 b1
                have naH : H ra = none := newR ra (List.mem_of_getElem? a1)
                have nbH : H rb = none := newR rb (List.mem_of_getElem? b1)
                refine ⟨_, rfl, _, rfl, _, rfl, m, _, _, _, rfl, rfl, SqL.of M5.top, atI_nat (by rw [List.getElem?_map, a1]; rfl), _, rfl, ra, _, _, b, rfl, rfl, y1, ixN_nat (j := b) (by rw [y2]; omega), ?_⟩
                have M5' : (upd H5 ra (.lst (ya.set b (.int v)))) m = some (.lst (ps.map V.ref)) := by
                  rw [upd_ne (fun z => M5.np (by rw [z]; exact List.mem_of_getElem? a1))]
                  exact M5.top
                refine ⟨_, rfl, _, rfl, _, rfl, m, _, _, _, rfl, rfl, SqL.of M5', atI_nat (by rw [List.getElem?_map, b1]; rfl), _, rfl, rb, _, _, a, rfl, rfl, y3, ixN_nat (j := a) (by rw [y4]; omega), ?_⟩
                refine ⟨_, _, _, _, _, setT ks b a v, rfl, fun x o e0 => ?_, M6, setT_fine f2 bn v0 v1, (setT_len ..).trans l2, fo⟩
                rw [upd_ne (ne_of_none e0 nbH), upd_ne (ne_of_none e0 naH)]
                exact s25 _ _ e0
    · rintro σ H2 ⟨pv, dv, ov, tv, kv, ks, rfl, s2, M2, f2, l2, fo⟩
      have dz : ds.drop xs.length = [] := by rw [lxd]; exact List.drop_length ..
      rw [dz] at fo
      have fo' : followK k kss ds 0 = (ks, xs.length) := fo
      refine ⟨_, rfl, m, ps, ks, k, rfl, M2, f2, by omega, fun p qs H6 s6 np R => ?_⟩
      refine ⟨_, rfl, r, xs, rfl, .inl (SqL.of (s6 _ _ (s2 _ _ hr0))), (by show 2 ≤ sizeLine; decide), fun T3 hT3 => ?_⟩
      obtain ⟨H7, e7, s7, f7⟩ := gen H6 hT3 (.tup [.ref p, .int ((xs.length : Nat) : Int)])
      rw [e7]
      clear e7
      have R7 := R.same s7
      refine q T3 p qs H7 (s2.trans (s6.trans s7)) (by rw [f7, fo']) (by rw [fo']; exact R7.tab rfl) (s2.free np) R.out fun x hx => s2.free (R.new x hx)

end
end
end K05

namespace GL
open PySem PySem.Spec PyProof.Rows L2
/-! ### calls that are refused -/
/-- kinds, or else the company, are refused -/
def RefC (er : Str → Addr) (H : Hp) (x y : V) (dk dc : PyData) (E : XK) : Prop := (kindsD dk = false ∧ Rf er "InvalidNumber" x H E) ∨ ∃ k, dk = .int k ∧ kindsD dk = true ∧ compOk k dc = false ∧ Rf er "InvalidCompany" y H E
/-- a company of k kinds, as it stands -/
structure GoodC (H : Hp) (x y : V) (dk : PyData) (k : Int) (c : Addr) (rs : List Addr) (kss : List (List Int)) : Prop where
  ex : x = .int k
  ey : y = .ref c
  ek : dk = .int k
  k2 : 2 ≤ k
  k9 : k ≤ 9
  t : Tab H c rs kss
  fine : Fine k kss
  one : 1 ≤ kss.length
  most : kss.length ≤ 40
theorem GoodC.kd {H : Hp} {x y : V} {dk : PyData} {k : Int} {c : Addr} {rs : List Addr} {kss : List (List Int)} (g : GoodC H x y dk k c rs kss) : kindsD dk = true := by
  rw [g.ek]
  show (decide (2 ≤ k) && decide (k ≤ 9)) = true
  rw [decide_eq_true g.k2, decide_eq_true g.k9]
  rfl
theorem com_by {K : PySem.W.Frag} {er : Str → Addr} {H : Hp} {x y : V} {dk dc : PyData} {E : XK} {Q : VK} (dx : Dt K H x dk) (dy : Dt K H y dc) (h : RefC er H x y dk dc E) : spCom K er [x, y] H Q E := by
  rcases h with ⟨h, r⟩ | ⟨k, rfl, hk, hc, r⟩
  · exact ⟨x, y, dk, dc, rfl, dx, dy, (fun _ => r), (fun k e hk => by rw [h] at hk; cases hk)⟩
  · refine ⟨x, y, _, dc, rfl, dx, dy, (fun z => by rw [hk] at z; cases z), fun k' e _ => ?_⟩
    cases e
    exact ⟨fun _ => r, (fun z => by rw [hc] at z; cases z)⟩
theorem com_good {K : PySem.W.Frag} {er : Str → Addr} {H : Hp} {x y : V} {dk : PyData} {k : Int} {c : Addr} {rs : List Addr} {kss : List (List Int)} {E : XK} {Q : VK} (g : GoodC H x y dk k c rs kss) (h : ∀ H', Same H H' → Q .non H') : spCom K er [x, y] H Q E := by
  have kd := g.kd
  obtain ⟨rfl, rfl, rfl, k2, k9, t, fine, one, most⟩ := g
  refine ⟨_, _, _, tabP kss, rfl, .int k, t.dt, (fun z => by rw [kd] at z; cases z), fun k' e _ => ?_⟩
  cases e
  exact ⟨(fun z => by rw [Fine.comp fine one most] at z; cases z), fun _ => h⟩
/-- f(kinds, company): refused -/
def spTwo (K : PySem.W.Frag) (er : Str → Addr) : Sp := fun vs H Q E => ∃ x y dk dc, vs = [x, y] ∧ Dt K H x dk ∧ Dt K H y dc ∧ RefC er H x y dk dc E
/-- f(kinds, value): refused if the kinds are -/
def spOne (K : PySem.W.Frag) (er : Str → Addr) : Sp := fun vs H Q E => ∃ x y dk, vs = [x, y] ∧ Dt K H x dk ∧ kindsD dk = false ∧ Rf er "InvalidNumber" x H E
/-- f(kinds, company, z): refused, for z as nz if the test says so -/
def spThree (nz : Str) (bad : Int → List (List Int) → PyData → Prop) (K : PySem.W.Frag) (er : Str → Addr) : Sp := fun vs H Q E => ∃ x y z dk dc dz, vs = [x, y, z] ∧ Dt K H x dk ∧ Dt K H y dc ∧ Dt K H z dz ∧
  (RefC er H x y dk dc E ∨ ∃ k c rs kss, GoodC H x y dk k c rs kss ∧ bad k kss dz ∧ Rf er nz z H E)
def badCou (_ : Int) (kss : List (List Int)) (d : PyData) : Prop := cplD kss.length d = false
def badLot (_ : Int) (kss : List (List Int)) (d : PyData) : Prop := lotD kss.length d = false
def badOrder (_ : Int) (kss : List (List Int)) (d : PyData) : Prop := orderD kss.length d = false ∧ ∀ ds, d = .list ds → ds.length ≤ 1000
def badDeed (k : Int) (kss : List (List Int)) (d : PyData) : Prop := deedB k kss d = false
def noBad (_ : Int) (_ : List (List Int)) (_ : PyData) : Prop := False
def spTieX := spThree "InvalidCouple" badCou
def spAmongX := spThree "InvalidLot" badLot
def spRenamedX := spThree "InvalidLot" badOrder
def spDoneX := spThree "InvalidDeed" badDeed
def spHeadX := spThree "InvalidDeed" noBad
/-- differing(kinds, one, other) -/
def spDifferX (K : PySem.W.Frag) (er : Str → Addr) : Sp := fun vs H Q E => ∃ x y z dk dc dz, vs = [x, y, z] ∧ Dt K H x dk ∧ Dt K H y dc ∧ Dt K H z dz ∧
  (RefC er H x y dk dc E ∨ ∃ k c rs kss, GoodC H x y dk k c rs kss ∧ ((compOk k dz = false ∧ Rf er "InvalidCompany" z H E) ∨ (compOk k dz = true ∧ (∀ es, dz = .list es → es.length ≠ kss.length) ∧ Rf er "Unlike" z H E)))
/-- led(kinds, company, road): no list, or an item that can't be done -/
def spLedX (K : PySem.W.Frag) (er : Str → Addr) : Sp := fun vs H Q E => ∃ x y z dk dc dz, vs = [x, y, z] ∧ Dt K H x dk ∧ Dt K H y dc ∧ Dt K H z dz ∧
  (RefC er H x y dk dc E ∨ ∃ k c rs kss, GoodC H x y dk k c rs kss ∧ ((isList dz = false ∧ Rf er "InvalidDeed" z H E) ∨
    ∃ (r : Addr) (xs : List V) (ds : List PyData) (v : V), z = .ref r ∧ dz = .list ds ∧ H r = some (.lst xs) ∧ ds.length ≤ 1000 ∧ (followK k kss ds 0).2 < ds.length ∧ xs[(followK k kss ds 0).2]? = some v ∧ Rf er "InvalidDeed" v H E))
end GL

namespace K05
open PySem PySem.Spec PyProof.Rows
open L2
open GL
abbrev spStandX := spTieX
abbrev spAlikeX := spTwo
abbrev spDeedsX := spTwo
abbrev spRoadX := spHeadX
section
variable {P : Program} {w : World} {K : PySem.W.Frag} {mg : Str → Option Value} {base : Heap}
variable {er : Str → Addr}
abbrev sOne : Stmt := topS 37
abbrev nOne : List Str := ["kinds", "value"]
theorem scOne : FnScope nOne ["kinds", "value"] (defScope sOne) := ⟨rfl, rfl, rfl, by decide +kernel, rfl, by decide +kernel, by decide +kernel⟩
theorem ok_one {f : Addr} {fd : FuncData} (F : Fun K "is_company" "is_company" sOne f fd) (T : Bi mg) (Ucheckkinds : UseX P w K mg base "check_kinds" ["kinds"] (spKnd K er) 3) : FnOk P w K mg base (L2.CX P w) 7 f fd ["kinds", "value"] (spOne K er) := by
  refine F.okX scOne (fun vs H Q E h => ?_) (fun cdv A outer s H vs Q E hr h => ?_)
  · obtain ⟨x, y, dk, rfl, _⟩ := h
    rfl
  · obtain ⟨x, y, dk, rfl, dx, kf, r⟩ := h
    refine ⟨_, (pss_cons (ps_expr (pe_useX Ucheckkinds (hr.mono (by decide)) (takes_of rfl rfl rfl rfl) (by rfl) (pa_cons (pv 0) pa_nil)))
      (pss_one ps_never)), ?_⟩
    exact ⟨_, rfl, x, dk, rfl, dx, (fun z => by rw [kf] at z; cases z), fun _ => r⟩
abbrev sTieX : Stmt := topS 38
abbrev nTieX : List Str := ["kinds", "company", "couple", "one", "other"]
theorem scTieX : FnScope nTieX ["kinds", "company", "couple"] (defScope sTieX) := ⟨rfl, rfl, rfl, by decide +kernel, rfl, by decide +kernel, by decide +kernel⟩
theorem ok_tieX {f : Addr} {fd : FuncData} (F : Fun K "tie" "tie" sTieX f fd) (T : Bi mg) (Ucheckcompany : UseX P w K mg base "check_company" ["kinds", "company"] (spCom K er) 5) (Ucheckcouple : UseX P w K mg base "check_couple" ["company", "couple"] (spCou K er) 4) : FnOk P w K mg base (L2.CX P w) 7 f fd ["kinds", "company", "couple"] (spTieX K er) := by
  refine F.okX scTieX (fun vs H Q E h => ?_) (fun cdv A outer s H vs Q E hr h => ?_)
  · obtain ⟨x, y, z, dk, dc, dz, rfl, _⟩ := h
    rfl
  · obtain ⟨x, y, z, dk, dc, dz, rfl, dx, dy, dd, h⟩ := h
    refine ⟨_, (pss_cons (ps_expr (pe_useX Ucheckcompany (hr.mono (by decide)) (takes_of rfl rfl rfl rfl) (by rfl) (pa_cons (pv 0) (pa_cons (pv 1) pa_nil))))
      (pss_cons (ps_expr (pe_useX Ucheckcouple (hr.mono (by decide)) (takes_of rfl rfl rfl rfl) (by rfl) (pa_cons (pv 1) (pa_cons (pv 2) pa_nil))))
      (pss_cons ps_never
      (pss_one ps_never)))), ?_⟩
    refine ⟨_, rfl, _, rfl, ?_⟩
    dsimp only [tNil, tVar, List.append_nil, List.cons_append, List.nil_append]
    rcases h with r | ⟨k, c, rs, kss, g, bad, r⟩
    · exact com_by dx dy r
    · have hl : (rs.map V.ref).length = kss.length := by rw [List.length_map, g.t.len]
      refine com_good g fun H1 s1 => ?_
      obtain ⟨rfl, rfl, rfl, k2, k9, t, fine, one, most⟩ := g
      refine ⟨_, rfl, _, rfl, c, _, z, dz, rfl, s1 _ _ t.top, Dt.same s1 _ _ dd, (fun q => ?_), fun _ => r.later s1⟩
      rw [hl, show cplD kss.length dz = false from bad] at q
      cases q
abbrev sStandX : Stmt := topS 39
abbrev nStandX : List Str := ["kinds", "company", "couple", "one", "other"]
theorem scStandX : FnScope nStandX ["kinds", "company", "couple"] (defScope sStandX) := ⟨rfl, rfl, rfl, by decide +kernel, rfl, by decide +kernel, by decide +kernel⟩
theorem ok_standX {f : Addr} {fd : FuncData} (F : Fun K "stand_alike" "stand_alike" sStandX f fd) (T : Bi mg) (Ucheckcompany : UseX P w K mg base "check_company" ["kinds", "company"] (spCom K er) 5) (Ucheckcouple : UseX P w K mg base "check_couple" ["company", "couple"] (spCou K er) 4) : FnOk P w K mg base (L2.CX P w) 7 f fd ["kinds", "company", "couple"] (spStandX K er) := by
  refine F.okX scStandX (fun vs H Q E h => ?_) (fun cdv A outer s H vs Q E hr h => ?_)
  · obtain ⟨x, y, z, dk, dc, dz, rfl, _⟩ := h
    rfl
  · obtain ⟨x, y, z, dk, dc, dz, rfl, dx, dy, dd, h⟩ := h
    refine ⟨_, (pss_cons (ps_expr (pe_useX Ucheckcompany (hr.mono (by decide)) (takes_of rfl rfl rfl rfl) (by rfl) (pa_cons (pv 0) (pa_cons (pv 1) pa_nil))))
      (pss_cons (ps_expr (pe_useX Ucheckcouple (hr.mono (by decide)) (takes_of rfl rfl rfl rfl) (by rfl) (pa_cons (pv 1) (pa_cons (pv 2) pa_nil))))
      (pss_cons ps_never
      (pss_one ps_never)))), ?_⟩
    refine ⟨_, rfl, _, rfl, ?_⟩
    dsimp only [tNil, tVar, List.append_nil, List.cons_append, List.nil_append]
    rcases h with r | ⟨k, c, rs, kss, g, bad, r⟩
    · exact com_by dx dy r
    · have hl : (rs.map V.ref).length = kss.length := by rw [List.length_map, g.t.len]
      refine com_good g fun H1 s1 => ?_
      obtain ⟨rfl, rfl, rfl, k2, k9, t, fine, one, most⟩ := g
      refine ⟨_, rfl, _, rfl, c, _, z, dz, rfl, s1 _ _ t.top, Dt.same s1 _ _ dd, (fun q => ?_), fun _ => r.later s1⟩
      rw [hl, show cplD kss.length dz = false from bad] at q
      cases q
abbrev sAlikeX : Stmt := topS 40
abbrev nAlikeX : List Str := ["kinds", "company"]
theorem scAlikeX : FnScope nAlikeX ["kinds", "company"] (defScope sAlikeX) := ⟨rfl, rfl, rfl, by decide +kernel, rfl, by decide +kernel, by decide +kernel⟩
theorem ok_alikeX {f : Addr} {fd : FuncData} (F : Fun K "alike_couples" "alike_couples" sAlikeX f fd) (T : Bi mg) (Ucheckcompany : UseX P w K mg base "check_company" ["kinds", "company"] (spCom K er) 5) : FnOk P w K mg base (L2.CX P w) 7 f fd ["kinds", "company"] (spAlikeX K er) := by
  refine F.okX scAlikeX (fun vs H Q E h => ?_) (fun cdv A outer s H vs Q E hr h => ?_)
  · obtain ⟨x, y, dk, dc, rfl, _⟩ := h
    rfl
  · obtain ⟨x, y, dk, dc, rfl, dx, dy, r⟩ := h
    refine ⟨_, (pss_cons (ps_expr (pe_useX Ucheckcompany (hr.mono (by decide)) (takes_of rfl rfl rfl rfl) (by rfl) (pa_cons (pv 0) (pa_cons (pv 1) pa_nil))))
      (pss_one ps_never)), ?_⟩
    refine ⟨_, rfl, _, rfl, ?_⟩
    dsimp only [tNil, tVar, List.append_nil, List.cons_append, List.nil_append]
    exact com_by dx dy r
abbrev sAmongX : Stmt := topS 41
abbrev nAmongX : List Str := ["kinds", "company", "lot"]
theorem scAmongX : FnScope nAmongX ["kinds", "company", "lot"] (defScope sAmongX) := ⟨rfl, rfl, rfl, by decide +kernel, rfl, by decide +kernel, by decide +kernel⟩
theorem ok_amongX {f : Addr} {fd : FuncData} (F : Fun K "among" "among" sAmongX f fd) (T : Bi mg) (Ucheckcompany : UseX P w K mg base "check_company" ["kinds", "company"] (spCom K er) 5) (Uchecklot : UseX P w K mg base "check_lot" ["company", "lot"] (spLotC K er) 4) : FnOk P w K mg base (L2.CX P w) 7 f fd ["kinds", "company", "lot"] (spAmongX K er) := by
  refine F.okX scAmongX (fun vs H Q E h => ?_) (fun cdv A outer s H vs Q E hr h => ?_)
  · obtain ⟨x, y, z, dk, dc, dz, rfl, _⟩ := h
    rfl
  · obtain ⟨x, y, z, dk, dc, dz, rfl, dx, dy, dd, h⟩ := h
    refine ⟨_, (pss_cons (ps_expr (pe_useX Ucheckcompany (hr.mono (by decide)) (takes_of rfl rfl rfl rfl) (by rfl) (pa_cons (pv 0) (pa_cons (pv 1) pa_nil))))
      (pss_cons (ps_expr (pe_useX Uchecklot (hr.mono (by decide)) (takes_of rfl rfl rfl rfl) (by rfl) (pa_cons (pv 1) (pa_cons (pv 2) pa_nil))))
      (pss_one ps_never))), ?_⟩
    refine ⟨_, rfl, _, rfl, ?_⟩
    dsimp only [tNil, tVar, List.append_nil, List.cons_append, List.nil_append]
    rcases h with r | ⟨k, c, rs, kss, g, bad, r⟩
    · exact com_by dx dy r
    · have hl : (rs.map V.ref).length = kss.length := by rw [List.length_map, g.t.len]
      refine com_good g fun H1 s1 => ?_
      obtain ⟨rfl, rfl, rfl, k2, k9, t, fine, one, most⟩ := g
      refine ⟨_, rfl, _, rfl, c, _, z, dz, rfl, s1 _ _ t.top, by omega, Dt.same s1 _ _ dd, (fun q => ?_), fun _ => r.later s1⟩
      rw [hl, show lotD kss.length dz = false from bad] at q
      cases q
abbrev sRenamedX : Stmt := topS 42
abbrev nRenamedX : List Str := ["kinds", "company", "order"]
theorem scRenamedX : FnScope nRenamedX ["kinds", "company", "order"] (defScope sRenamedX) := ⟨rfl, rfl, rfl, by decide +kernel, rfl, by decide +kernel, by decide +kernel⟩
theorem ok_renamedX {f : Addr} {fd : FuncData} (F : Fun K "renamed" "renamed" sRenamedX f fd) (T : Bi mg) (Uisorder : Use P w K mg base "is_order" ["many", "value"] (spOrderA K) 3) (Ucheckcompany : UseX P w K mg base "check_company" ["kinds", "company"] (spCom K er) 5) (XInvalidLot : ErrU P w K mg base er "InvalidLot") : FnOk P w K mg base (L2.CX P w) 7 f fd ["kinds", "company", "order"] (spRenamedX K er) := by
  obtain ⟨iInvalidLot, tInvalidLot, uInvalidLot⟩ := XInvalidLot
  refine F.okX scRenamedX (fun vs H Q E h => ?_) (fun cdv A outer s H vs Q E hr h => ?_)
  · obtain ⟨x, y, z, dk, dc, dz, rfl, _⟩ := h
    rfl
  · obtain ⟨x, y, z, dk, dc, dz, rfl, dx, dy, dd, h⟩ := h
    refine ⟨_, (pss_cons (ps_expr (pe_useX Ucheckcompany (hr.mono (by decide)) (takes_of rfl rfl rfl rfl) (by rfl) (pa_cons (pv 0) (pa_cons (pv 1) pa_nil))))
      (pss_cons (ps_if (pt_not (pt_val (pe_use Uisorder (hr.mono (by decide)) (by rfl) (pa_cons (pe_callB call_len_seq (by rfl) T.len PySem.boot_len (pa_cons (pv 1) pa_nil)) (pa_cons (pv 2) pa_nil)))))
        (pss_one (ps_raise rfl (takes_of rfl rfl rfl rfl) (pmk_err tInvalidLot uInvalidLot (hr.mono (by decide)) (by rfl) (pa_cons (pv 2) pa_nil)))) pss_nil)
      (pss_one ps_never))), ?_⟩
    refine ⟨_, rfl, _, rfl, ?_⟩
    dsimp only [tNil, tVar, List.append_nil, List.cons_append, List.nil_append]
    rcases h with r | ⟨k, c, rs, kss, g, bad, r⟩
    · exact com_by dx dy r
    · have hl : (rs.map V.ref).length = kss.length := by rw [List.length_map, g.t.len]
      refine com_good g fun H1 s1 => ?_
      obtain ⟨rfl, rfl, rfl, k2, k9, t, fine, one, most⟩ := g
      refine ⟨_, rfl, c, _, rfl, .inl (SqL.of (s1 _ _ t.top)), _, rfl, kss.length, z, dz, ?_, by omega, Dt.same s1 _ _ dd, bad.2, fun H2 s2 => ⟨_, rfl, ?_⟩⟩
      · rw [hl]
        rfl
      · rw [bad.1]
        exact iteT ⟨_, rfl, err_by tInvalidLot (r.raise (s1.trans s2))⟩
abbrev sDifferX : Stmt := topS 43
abbrev nDifferX : List Str := ["kinds", "one", "other"]
theorem scDifferX : FnScope nDifferX ["kinds", "one", "other"] (defScope sDifferX) := ⟨rfl, rfl, rfl, by decide +kernel, rfl, by decide +kernel, by decide +kernel⟩
theorem ok_differX {f : Addr} {fd : FuncData} (F : Fun K "differing" "differing" sDifferX f fd) (T : Bi mg) (Ucheckcompanies : UseX P w K mg base "check_companies" ["kinds", "one", "other"] (spComs K er) 6) : FnOk P w K mg base (L2.CX P w) 7 f fd ["kinds", "one", "other"] (spDifferX K er) := by
  refine F.okX scDifferX (fun vs H Q E h => ?_) (fun cdv A outer s H vs Q E hr h => ?_)
  · obtain ⟨x, y, z, dk, dc, dz, rfl, _⟩ := h
    rfl
  · obtain ⟨x, y, z, dk, dc, dz, rfl, dx, dy, dd, h⟩ := h
    refine ⟨_, (pss_cons (ps_expr (pe_useX Ucheckcompanies hr (takes_of rfl rfl rfl rfl) (by rfl) (pa_cons (pv 0) (pa_cons (pv 1) (pa_cons (pv 2) pa_nil)))))
      (pss_one ps_never)), ?_⟩
    refine ⟨_, rfl, _, rfl, _, rfl, ?_⟩
    rcases h with r | ⟨k, c, rs, kss, g, r⟩
    · refine ⟨x, y, z, dk, dc, dz, rfl, dx, dy, dd, ?_⟩
      rcases r with ⟨kf, r⟩ | ⟨k, rfl, hk, hc, r⟩
      · exact ⟨(fun _ => r), (fun k e hk => by rw [kf] at hk; cases hk)⟩
      · refine ⟨(fun z => by rw [hk] at z; cases z), fun k' e _ => ?_⟩
        cases e
        exact ⟨(fun _ => r), (fun z => by rw [hc] at z; cases z)⟩
    · have kd := g.kd
      obtain ⟨rfl, rfl, rfl, k2, k9, t, fine, one, most⟩ := g
      have hc := Fine.comp fine one most
      refine ⟨_, _, z, _, tabP kss, dz, rfl, .int k, t.dt, dd, (fun z => by rw [kd] at z; cases z), fun k' e _ => ?_⟩
      cases e
      refine ⟨(fun z => by rw [hc] at z; cases z), fun _ => ?_⟩
      rcases r with ⟨hz, r⟩ | ⟨hz, ne, r⟩
      · exact ⟨(fun _ => r), (fun _ _ _ _ z => by rw [hz] at z; cases z)⟩
      · refine ⟨(fun e => by rw [hz] at e; cases e), fun ds es ed ee _ => ⟨fun _ => r, fun e => ?_⟩⟩
        cases ed
        refine absurd ?_ (ne es ee)
        rw [← e, List.length_map]
abbrev sHeadX : Stmt := topS 44
abbrev nHeadX : List Str := ["kinds", "company", "value"]
theorem scHeadX : FnScope nHeadX ["kinds", "company", "value"] (defScope sHeadX) := ⟨rfl, rfl, rfl, by decide +kernel, rfl, by decide +kernel, by decide +kernel⟩
theorem ok_headX {f : Addr} {fd : FuncData} (F : Fun K "is_deed" "is_deed" sHeadX f fd) (T : Bi mg) (Ucheckcompany : UseX P w K mg base "check_company" ["kinds", "company"] (spCom K er) 5) : FnOk P w K mg base (L2.CX P w) 7 f fd ["kinds", "company", "value"] (spHeadX K er) := by
  refine F.okX scHeadX (fun vs H Q E h => ?_) (fun cdv A outer s H vs Q E hr h => ?_)
  · obtain ⟨x, y, z, dk, dc, dz, rfl, _⟩ := h
    rfl
  · obtain ⟨x, y, z, dk, dc, dz, rfl, dx, dy, dd, h⟩ := h
    refine ⟨_, (pss_cons (ps_expr (pe_useX Ucheckcompany (hr.mono (by decide)) (takes_of rfl rfl rfl rfl) (by rfl) (pa_cons (pv 0) (pa_cons (pv 1) pa_nil))))
      (pss_one ps_never)), ?_⟩
    refine ⟨_, rfl, _, rfl, ?_⟩
    dsimp only [tNil, tVar, List.append_nil, List.cons_append, List.nil_append]
    rcases h with r | ⟨k, c, rs, kss, g, bad, r⟩
    · exact com_by dx dy r
    · exact bad.elim
abbrev sDeedsX : Stmt := topS 45
abbrev nDeedsX : List Str := ["kinds", "company", "couples", "one", "other", "kind"]
theorem scDeedsX : FnScope nDeedsX ["kinds", "company"] (defScope sDeedsX) := ⟨rfl, rfl, rfl, by decide +kernel, rfl, by decide +kernel, by decide +kernel⟩
theorem ok_deedsX {f : Addr} {fd : FuncData} (F : Fun K "deeds" "deeds" sDeedsX f fd) (T : Bi mg) (Ucheckcompany : UseX P w K mg base "check_company" ["kinds", "company"] (spCom K er) 5) : FnOk P w K mg base (L2.CX P w) 7 f fd ["kinds", "company"] (spDeedsX K er) := by
  refine F.okX scDeedsX (fun vs H Q E h => ?_) (fun cdv A outer s H vs Q E hr h => ?_)
  · obtain ⟨x, y, dk, dc, rfl, _⟩ := h
    rfl
  · obtain ⟨x, y, dk, dc, rfl, dx, dy, r⟩ := h
    refine ⟨_, (pss_cons (ps_expr (pe_useX Ucheckcompany (hr.mono (by decide)) (takes_of rfl rfl rfl rfl) (by rfl) (pa_cons (pv 0) (pa_cons (pv 1) pa_nil))))
      (pss_cons ps_never
      (pss_one ps_never))), ?_⟩
    refine ⟨_, rfl, _, rfl, ?_⟩
    dsimp only [tNil, tVar, List.append_nil, List.cons_append, List.nil_append]
    exact com_by dx dy r
abbrev sDoneX : Stmt := topS 46
abbrev nDoneX : List Str := ["kinds", "company", "deed", "behind", "many"]
theorem scDoneX : FnScope nDoneX ["kinds", "company", "deed"] (defScope sDoneX) := ⟨rfl, rfl, rfl, by decide +kernel, rfl, by decide +kernel, by decide +kernel⟩
theorem ok_doneX {f : Addr} {fd : FuncData} (F : Fun K "done" "done" sDoneX f fd) (T : Bi mg) (Ucheckcompany : UseX P w K mg base "check_company" ["kinds", "company"] (spCom K er) 5) (Ufollowed : Use P w K mg base "followed" ["kinds", "company", "road"] (spFollowed K) 6) (XInvalidDeed : ErrU P w K mg base er "InvalidDeed") : FnOk P w K mg base (L2.CX P w) 7 f fd ["kinds", "company", "deed"] (spDoneX K er) := by
  obtain ⟨iInvalidDeed, tInvalidDeed, uInvalidDeed⟩ := XInvalidDeed
  refine F.okX scDoneX (fun vs H Q E h => ?_) (fun cdv A outer s H vs Q E hr h => ?_)
  · obtain ⟨x, y, z, dk, dc, dz, rfl, _⟩ := h
    rfl
  · obtain ⟨x, y, z, dk, dc, dz, rfl, dx, dy, dd, h⟩ := h
    refine ⟨_, (pss_cons (ps_expr (pe_useX Ucheckcompany (hr.mono (by decide)) (takes_of rfl rfl rfl rfl) (by rfl) (pa_cons (pv 0) (pa_cons (pv 1) pa_nil))))
      (pss_cons (ps_asg (pe_use Ufollowed hr (by rfl) (pa_cons (pv 0) (pa_cons (pv 1) (pa_cons (pe_lst (pa_cons (pv 2) pa_nil)) pa_nil))))
          (pg_tup rfl (pgs_cons (pg_name (i := 3) scDoneX.nd rfl (Or.inl rfl)) (pgs_cons (pg_name (i := 4) scDoneX.nd rfl (Or.inl rfl)) pgs_nil))))
      (pss_cons (ps_if (pt_cmpR op_eq (pv 4) pe_int (nomark _))
        (pss_one (ps_raise rfl (takes_of rfl rfl rfl rfl) (pmk_err tInvalidDeed uInvalidDeed (hr.mono (by decide)) (by rfl) (pa_cons (pv 2) pa_nil)))) pss_nil)
      (pss_one ps_never)))), ?_⟩
    refine ⟨_, rfl, _, rfl, ?_⟩
    dsimp only [tNil, tVar, List.append_nil, List.cons_append, List.nil_append]
    rcases h with r | ⟨k, c, rs, kss, g, bad, r⟩
    · exact com_by dx dy r
    · refine com_good g fun H1 s1 => ?_
      obtain ⟨rfl, rfl, rfl, k2, k9, t, fine, one, most⟩ := g
      have fo : followK k kss [dz] 0 = (kss, 0) := by
        rw [follow_cons, show deedB k kss dz = false from bad, if_neg (by decide)]
      refine ⟨_, rfl, _, rfl, _, rfl, one_le, fun l hl => ?_⟩
      obtain ⟨H2, e2, s2, f2⟩ := gen H1 hl (.lst [z])
      rw [e2]
      clear e2
      have s02 := s1.trans s2
      refine ⟨k, c, l, rs, kss, [z], [dz], rfl, t.same s02, fine, most, f2, .cons (dd.same s02) .nil, (by show 1 ≤ 100000; decide), fun T p ps H3 s3 hT u np pn nr => ?_⟩
      rw [fo] at hT u
      refine ⟨T, _, rfl, SqT.of hT, rfl, _, _, rfl, _, _, rfl, rfl, ?_⟩
      refine ⟨_, rfl, rfl, _, rfl, iteT ⟨_, rfl, err_by tInvalidDeed (r.raise (s02.trans s3))⟩⟩
abbrev sLedX : Stmt := topS 47
abbrev nLedX : List Str := ["kinds", "company", "road", "behind", "many"]
theorem scLedX : FnScope nLedX ["kinds", "company", "road"] (defScope sLedX) := ⟨rfl, rfl, rfl, by decide +kernel, rfl, by decide +kernel, by decide +kernel⟩
theorem ok_ledX {f : Addr} {fd : FuncData} (F : Fun K "led" "led" sLedX f fd) (T : Bi mg) (Ucheckcompany : UseX P w K mg base "check_company" ["kinds", "company"] (spCom K er) 5) (Ufollowed : Use P w K mg base "followed" ["kinds", "company", "road"] (spFollowed K) 6) (XInvalidDeed : ErrU P w K mg base er "InvalidDeed") : FnOk P w K mg base (L2.CX P w) 7 f fd ["kinds", "company", "road"] (spLedX K er) := by
  obtain ⟨iInvalidDeed, tInvalidDeed, uInvalidDeed⟩ := XInvalidDeed
  refine F.okX scLedX (fun vs H Q E h => ?_) (fun cdv A outer s H vs Q E hr h => ?_)
  · obtain ⟨x, y, z, dk, dc, dz, rfl, _⟩ := h
    rfl
  · obtain ⟨x, y, z, dk, dc, dz, rfl, dx, dy, dd, h⟩ := h
    refine ⟨_, (pss_cons (ps_expr (pe_useX Ucheckcompany (hr.mono (by decide)) (takes_of rfl rfl rfl rfl) (by rfl) (pa_cons (pv 0) (pa_cons (pv 1) pa_nil))))
      (pss_cons (ps_if (pt_not (pt_val (pe_callB call_isi (by rfl) T.isinstance (by decide +kernel) (pa_cons (pv 2) (pa_cons (pe_bltn (v := .ty "list") (by rfl) T.list (by decide +kernel) rfl) pa_nil)))))
        (pss_one (ps_raise rfl (takes_of rfl rfl rfl rfl) (pmk_err tInvalidDeed uInvalidDeed (hr.mono (by decide)) (by rfl) (pa_cons (pv 2) pa_nil)))) pss_nil)
      (pss_cons (ps_asg (pe_use Ufollowed hr (by rfl) (pa_cons (pv 0) (pa_cons (pv 1) (pa_cons (pv 2) pa_nil))))
          (pg_tup rfl (pgs_cons (pg_name (i := 3) scLedX.nd rfl (Or.inl rfl)) (pgs_cons (pg_name (i := 4) scLedX.nd rfl (Or.inl rfl)) pgs_nil))))
      (pss_cons (ps_if (pt_cmpR op_lt (pv 4) (pe_callB call_len_seq (by rfl) T.len PySem.boot_len (pa_cons (pv 2) pa_nil)) (nomark _))
        (pss_one (ps_raise rfl (takes_of rfl rfl rfl rfl) (pmk_err tInvalidDeed uInvalidDeed (hr.mono (by decide)) (by rfl) (pa_cons (pe_ix ix_list (pv 2) (pv 4) (fun _ _ => rfl)) pa_nil)))) pss_nil)
      (pss_one ps_never))))), ?_⟩
    refine ⟨_, rfl, _, rfl, ?_⟩
    dsimp only [tNil, tVar, List.append_nil, List.cons_append, List.nil_append]
    rcases h with r | ⟨k, c, rs, kss, g, h⟩
    · exact com_by dx dy r
    · refine com_good g fun H1 s1 => ?_
      obtain ⟨rfl, rfl, rfl, k2, k9, t, fine, one, most⟩ := g
      have dd1 := dd.same s1
      refine ⟨_, rfl, _, _, _, _, _, rfl, .ty "list", dd1.ty, kit_list dz, _, rfl, ?_⟩
      rcases h with ⟨hl, r⟩ | ⟨r, xs, ds, v, rfl, rfl, hr0, l1000, lt, hv, rf⟩
      · rw [hl]
        exact iteT ⟨_, rfl, err_by tInvalidDeed (r.raise s1)⟩
      · refine iteF ?_
        have h1 := s1 _ _ hr0
        cases dd with
        | lst q0 hd =>
          rw [hr0] at q0
          cases q0
          have ll := hd.length
          refine ⟨_, rfl, _, rfl, _, rfl, k, c, r, rs, kss, xs, ds, rfl, t.same s1, fine, most, h1, Dts.same s1 ds _ hd, by omega, fun T p ps H3 s3 hT u np pn nr => ?_⟩
          refine ⟨T, _, rfl, SqT.of hT, rfl, _, _, rfl, _, _, rfl, rfl, ?_⟩
          refine ⟨_, rfl, _, rfl, r, xs, rfl, .inl (SqL.of (s3 _ _ h1)), _, _, rfl, rfl, _, rfl, ?_⟩
          refine ite2 (fun _ => ?_) (fun z => absurd (decide_eq_true (show ((followK k kss ds 0).2 : Int) < ((xs.length : Nat) : Int) by omega)) z)
          have hm := s3 _ _ h1
          refine ⟨_, rfl, _, rfl, r, xs, _, v, rfl, rfl, SqL.of hm, atI_nat hv, err_by tInvalidDeed (rf.raise (s1.trans s3))⟩
abbrev sRoadX : Stmt := topS 48
abbrev nRoadX : List Str := ["kinds", "company", "value"]
theorem scRoadX : FnScope nRoadX ["kinds", "company", "value"] (defScope sRoadX) := ⟨rfl, rfl, rfl, by decide +kernel, rfl, by decide +kernel, by decide +kernel⟩
theorem ok_roadX {f : Addr} {fd : FuncData} (F : Fun K "is_road" "is_road" sRoadX f fd) (T : Bi mg) (Ucheckcompany : UseX P w K mg base "check_company" ["kinds", "company"] (spCom K er) 5) : FnOk P w K mg base (L2.CX P w) 7 f fd ["kinds", "company", "value"] (spRoadX K er) := by
  refine F.okX scRoadX (fun vs H Q E h => ?_) (fun cdv A outer s H vs Q E hr h => ?_)
  · obtain ⟨x, y, z, dk, dc, dz, rfl, _⟩ := h
    rfl
  · obtain ⟨x, y, z, dk, dc, dz, rfl, dx, dy, dd, h⟩ := h
    refine ⟨_, (pss_cons (ps_expr (pe_useX Ucheckcompany (hr.mono (by decide)) (takes_of rfl rfl rfl rfl) (by rfl) (pa_cons (pv 0) (pa_cons (pv 1) pa_nil))))
      (pss_one ps_never)), ?_⟩
    refine ⟨_, rfl, _, rfl, ?_⟩
    dsimp only [tNil, tVar, List.append_nil, List.cons_append, List.nil_append]
    rcases h with r | ⟨k, c, rs, kss, g, bad, r⟩
    · exact com_by dx dy r
    · exact bad.elim
end
end K05

namespace K05
open PySem PySem.Spec PyProof.Rows
open L2
open GL
section
variable {P : Program} {w : World} {K : PySem.W.Frag} {mg : Str → Option Value} {base : Heap}
abbrev sCouples : Stmt := topS 56
abbrev nCouples : List Str := ["_law_many", "_law_found", "_law_one", "_law_other"]
theorem scCouples : FnScope nCouples ["_law_many"] (defScope sCouples) := ⟨rfl, rfl, rfl, by decide +kernel, rfl, by decide +kernel, by decide +kernel⟩
theorem ok_couples {f : Addr} {fd : FuncData} (F : Fun K "_law_couples" "_law_couples" sCouples f fd) (T : Bi mg) : FnOk P w K mg base CX0 1 f fd ["_law_many"] spCouples := by
  refine F.ok scCouples (fun vs H Q E h => ?_) (fun cdv A outer s H vs Q E hr h => ?_)
  · obtain ⟨n, rfl, _⟩ := h
    rfl
  · obtain ⟨n, rfl, n100, q⟩ := h
    refine ⟨_, pss_cons (ps_set (i := 1) scCouples.nd rfl (Or.inl rfl) (pe_lst pa_nil))
      (pss_cons (ps_for PassesOwn.never rfl (pi_range1 (by rfl) T.range (pa_cons (pv 0) pa_nil)) (pg_name (i := 2) scCouples.nd rfl (Or.inr rfl))
        (pss_one (ps_set (i := 1) scCouples.nd rfl (Or.inl rfl) (pe_op op_cat (pv 1) (pe_lc (own := [("_law_other", 3)]) (g := gName 3) (tt := tYes) rfl scCouples.nd (pi_range2 (by rfl) T.range (pa_cons (pe_op op_add (pv 2) pe_int) (pa_cons (pv 0) pa_nil))) (blkOk_by (N := nCouples) (sc := defScope sCouples) (by decide +kernel))
          (fun _ _ _ _ _ => pg_name (i := 3) scCouples.nd rfl (Or.inl rfl)) (fun _ _ _ _ _ => pts_nil) (fun _ _ _ _ _ => by exact (pe_tup (pa_cons (pv 2) (pa_cons (pv 3) pa_nil)))))))))
      (pss_one (ps_ret (pv 1)))), ?_⟩
    refine ⟨Nat.zero_le _, fun f0 hf0 => ?_⟩
    have big : ∀ m, m ≤ 100 → m * n ≤ 10000 := fun m hm => Nat.mul_le_mul hm n100
    have szl : ∀ x, x ≤ 10200 → x < sizeLine := fun x hx => by rw [sizeLine_eq]; omega
    refine ⟨_, rfl, _, rfl, by omega, by omega, ?_⟩
    refine for_range (lo := 0) (n := (n : Int).toNat) (fun i σ H' => ∃ (a : Addr) (ts : List (Addr × Nat × Nat)) (pv : Option V), σ = [some (.int n), some (.ref a), pv, none] ∧ Same H H' ∧ H a = none ∧ Cpls H H' a ts ∧ ts.map (·.2) = cplTo n i)
      ⟨f0, [], none, rfl, same_new hf0, hf0, ⟨upd_same, by simp, by simp⟩, rfl⟩ ?_ ?_
    · rintro i σ H' hi ⟨a, ts, pv0, rfl, s1, ha, R, e1⟩
      have lts : ts.length ≤ i * n := by
        have := congrArg List.length e1
        rw [List.length_map] at this
        rw [this]
        exact cpl_len n i
      have b1 := big i (by omega)
      refine ⟨_, rfl, _, rfl, _, _, rfl, rfl, _, rfl, _, _, rfl, ⟨by omega, by omega, by omega, by omega⟩, fun D hD => ?_⟩
      have kn : ((n : Int) - (0 + (i : Int) + 1)).toNat = n - (i + 1) := by omega
      refine lc_it (walk_range (lo := 0 + (i : Int) + 1) (n := ((n : Int) - (0 + (i : Int) + 1)).toNat)) (fun j H5 => Same H' H5 ∧ ∃ us, Cpls H' H5 D us ∧ us.map (·.2) = (List.range j).map fun j => (i, i + 1 + j))
        ⟨same_new hD, [], ⟨upd_same, by simp, by simp⟩, rfl⟩ (fun _ _ _ _ => trivial) ?_ ?_
      · rintro j y H5 H6 hj ⟨s5, us, R5, e5⟩ ⟨rfl, rfl⟩
        refine ⟨rfl, yes_of ?_⟩
        refine ⟨_, rfl, _, rfl, (by show 2 ≤ sizeLine; decide), fun p hp => ?_⟩
        have ev : ([V.int (0 + (i : Int)), V.int (0 + (i : Int) + 1 + (j : Int))] : List V) = [V.int (i : Nat), V.int ((i + 1 + j : Nat) : Int)] := by
          rw [show (0 + (i : Int)) = (i : Int) by omega, show ((i : Int) + 1 + (j : Int)) = ((i + 1 + j : Nat) : Int) by omega]
        rw [ev]
        obtain ⟨H7, e7, s7, f7⟩ := gen H6 hp (.tup [V.int (i : Nat), V.int ((i + 1 + j : Nat) : Int)])
        rw [e7]
        clear e7
        have Dp : D ≠ p := ne_of_none R5.top hp
        refine ⟨_, s7 _ _ R5.top, ?_, fun b o e' => ?_, us ++ [(p, i, i + 1 + j)], ⟨?_, ?_, ?_⟩, ?_⟩
        · have lu : us.length = j := by
            have := congrArg List.length e5
            rw [List.length_map, List.length_map, List.length_range] at this
            exact this
          rw [List.length_map]
          exact small1000 (by omega)
        · rw [upd_ne (ne_of_none e' hD)]
          exact s7 b o (s5 b o e')
        · rw [upd_same, List.map_append]
          rfl
        · intro u hu
          rcases List.mem_append.mp hu with hu | hu
          · have h0 := R5.row u hu
            have uD : u.1 ≠ D := ne_of h0 R5.top (by intro z; cases z)
            rw [upd_ne uD]
            exact s7 _ _ h0
          · rw [List.mem_singleton] at hu
            subst hu
            show upd H7 D _ p = _
            rw [upd_ne Dp.symm]
            exact f7
        · intro u hu
          rcases List.mem_append.mp hu with hu | hu
          · exact R5.new u hu
          · rw [List.mem_singleton] at hu
            subst hu
            exact s5.free hp
        · rw [List.map_append, e5, List.range_succ, List.map_append]
          rfl
      · rintro H5 ⟨s5, us, R5, e5⟩
        rw [kn] at e5
        have lus : us.length ≤ n := by
          have := congrArg List.length e5
          rw [List.length_map, List.length_map, List.length_range] at this
          omega
        refine ⟨a, D, _, _, rfl, rfl, s5 _ _ R.top, R5.top, ?_, fun p hp => ?_⟩
        · rw [List.length_map, List.length_map]
          exact Nat.le_of_lt (szl _ (by omega))
        · obtain ⟨H6, e6, s6, f6⟩ := gen H5 hp (.lst ((ts.map fun t => V.ref t.1) ++ (us.map fun t => V.ref t.1)))
          rw [e6]
          clear e6
          refine ⟨p, ts ++ us, _, rfl, s1.trans (s5.trans s6), s1.free (s5.free hp), ⟨?_, ?_, ?_⟩, ?_⟩
          · rw [f6, List.map_append]
          · intro t ht
            rcases List.mem_append.mp ht with ht | ht
            · exact s6 _ _ (s5 _ _ (R.row t ht))
            · exact s6 _ _ (R5.row t ht)
          · intro t ht
            rcases List.mem_append.mp ht with ht | ht
            · exact R.new t ht
            · exact s1.free (R5.new t ht)
          · rw [List.map_append, e1, e5]
            rfl
    · rintro σ H' ⟨a, ts, pv0, rfl, s1, ha, R, e1⟩
      have nn : (n : Int).toNat = n := Int.toNat_natCast n
      rw [nn] at e1
      exact ⟨_, rfl, q a ts H' s1 ha R e1⟩

abbrev sNamed : Stmt := topS 57
abbrev nNamed : List Str := ["_law_company_here", "_law_order_here", "_law_place", "_law_person", "_law_mate"]
theorem scNamed : FnScope nNamed ["_law_company_here", "_law_order_here"] (defScope sNamed) := ⟨rfl, rfl, rfl, by decide +kernel, rfl, by decide +kernel, by decide +kernel⟩
theorem ok_named {f : Addr} {fd : FuncData} (F : Fun K "_law_named" "_law_named" sNamed f fd) (T : Bi mg) (U : Use P w K mg base "_law_tie" ["_law_company_here", "_law_one", "_law_other"] spTie 1) : FnOk P w K mg base CX0 2 f fd ["_law_company_here", "_law_order_here"] spNamed := by
  refine F.ok scNamed (fun vs H Q E h => ?_) (fun cdv A outer s H vs Q E hr h => ?_)
  · obtain ⟨c, o, rs, kss, k, os, rfl, _⟩ := h
    rfl
  · obtain ⟨c, o, rs, kss, k, os, rfl, t, fine, ho, nd, bd, len, q⟩ := h
    refine ⟨_, pss_one (ps_ret (pe_lc (own := [("_law_place", 2), ("_law_person", 3)]) (g := gTup K 2 (gCons (gName 2) (gCons (gName 3) gNil))) (tt := tYes) (te := tLc (iList K (tSl (rSlL K) (tVar 1) tNoPart (tPart (tVar 2)))) (gName 4) tYes (tCall spTie [] E0 (tCons (tVar 0) (tCons (tVar 3) (tCons (tVar 4) tNil)))) [4]) rfl scNamed.nd (pi_enum (by rfl) T.enumerate (pa_cons (pv 1) pa_nil))
        (blkOk_by (N := nNamed) (sc := defScope sNamed) (by decide +kernel)) (fun _ _ _ _ _ => pg_tup rfl (pgs_cons (pg_name (i := 2) scNamed.nd rfl (Or.inl rfl)) (pgs_cons (pg_name (i := 3) scNamed.nd rfl (Or.inr rfl)) pgs_nil)))
        (fun _ _ _ _ _ => pts_nil)
        (fun _ _ _ _ _ => by exact (pe_lc (own := [("_law_mate", 4)]) (g := gName 4) (tt := tYes) rfl scNamed.nd (pi_list (pe_slice sl_list (pv 1) po_none (po_some (pv 2))))
          (blkOk_by (N := nNamed) (sc := relS (compScope (exprOf (stmtIn (defBody sNamed) 0))) (defScope sNamed)) (by decide +kernel)) (fun _ _ _ _ _ => pg_name (i := 4) scNamed.nd rfl (Or.inl rfl))
          (fun _ _ _ _ _ => pts_nil) (fun _ _ _ _ _ => pe_use U hr (by rfl) (pa_cons (pv 0) (pa_cons (pv 3) (pa_cons (pv 4) pa_nil)))))))), ?_⟩
    refine ⟨_, rfl, o, natV os, rfl, SqL.of ho, fun D hD => ?_⟩
    have lo : (natV os).length = os.length := List.length_map _
    refine lc_it (walk_enum (K := K) (a := o) (xs := natV os)) (fun i H5 => Same H H5 ∧ ∃ rs, Tab H5 D rs ((List.range i).map (rowN kss os)) ∧ D ∉ rs ∧ ∀ r ∈ rs, H r = none) ⟨same_new hD, [], ⟨upd_same, rfl, fun i r ks h => by simp at h, List.nodup_nil⟩, by simp, by simp⟩ (fun i H5 _ z => (z.1).seq (SqL.of ho)) ?_ ?_
    · rintro i y H5 H6 hi ⟨s1, rs', u, nD, nR⟩ ⟨A2, x1, x2, rfl, nA, rfl, e1, e2⟩
      have e1' : x1 = .int (i : Nat) := (Option.some.inj e1).symm
      subst e1'
      rw [lo] at hi
      have e2' : x2 = .int (os[i] : Nat) := by
        have e3 : (natV os)[i]? = some x2 := e2
        unfold natV at e3
        rw [List.getElem?_map, List.getElem?_eq_getElem hi] at e3
        exact (Option.some.inj e3).symm
      subst e2'
      have s2 := s1.trans (same_new (o := .tup [.int (i : Nat), .int (os[i] : Nat)]) nA)
      refine ⟨A2, [.int (i : Nat), .int (os[i] : Nat)], rfl, SqT.of upd_same, rfl, _, _, rfl, _, _, rfl, rfl, rfl, yes_of ?_⟩
      refine ⟨_, rfl, _, rfl, _, rfl, o, _, rfl, SqL.of (s2 _ _ ho), fun C hC => ?_⟩
      rw [cut_to (by rw [lo]; omega)]
      have s3 := s2.trans (same_new (o := .lst ((natV os).take i)) hC)
      refine ⟨_, rfl, ⟨_, SqL.of upd_same⟩, fun D2 hD2 => ?_⟩
      refine lc_list (K := K) (a := C) (xs := (natV os).take i) (fun j H7 => Same (upd (upd H5 A2 (.tup [.int (i : Nat), .int (os[i] : Nat)])) C (.lst ((natV os).take i))) H7 ∧ H7 D2 = some (.lst (((List.range j).map fun j => tieN kss (os.getD i 0) (os.getD j 0)).map V.int)))
        ⟨same_new hD2, upd_same⟩ (fun j H7 _ z => (z.1).seq (SqL.of upd_same)) ?_ ?_
      · rintro j y H7 hj ⟨s5, h5⟩
        have hji : j < i := by
          have := (List.getElem?_eq_some_iff.mp hj).1
          rw [List.length_take] at this
          omega
        have hjl : j < os.length := by omega
        have ey : y = .int (os[j] : Nat) := by
          rw [List.getElem?_take_of_lt hji] at hj
          unfold natV at hj
          rw [List.getElem?_map, List.getElem?_eq_getElem hjl] at hj
          exact (Option.some.inj hj).symm
        subst ey
        have b1 : os[i] < kss.length := bd _ (List.getElem_mem _)
        have b2 : os[j] < kss.length := bd _ (List.getElem_mem _)
        have ne : os[i] ≠ os[j] := fun z => by
          have := (List.getElem_inj nd).mp z
          omega
        have s35 := s3.trans s5
        have gi : os.getD i 0 = os[i] := by rw [List.getD_eq_getElem?_getD, List.getElem?_eq_getElem hi]; rfl
        have gj : os.getD j 0 = os[j] := by rw [List.getD_eq_getElem?_getD, List.getElem?_eq_getElem hjl]; rfl
        have last : ∃ acc, H7 D2 = some (.lst acc) ∧ acc.length < sizeLine ∧ Same (upd (upd H5 A2 (.tup [.int (i : Nat), .int (os[i] : Nat)])) C (.lst ((natV os).take i))) (upd H7 D2 (.lst (acc ++ [V.int (tieN kss os[i] os[j])]))) ∧
            (upd H7 D2 (.lst (acc ++ [V.int (tieN kss os[i] os[j])]))) D2 = some (.lst (((List.range (j + 1)).map fun j => tieN kss (os.getD i 0) (os.getD j 0)).map V.int)) := by
          refine ⟨_, h5, ?_, fun b o' zz => ?_, ?_⟩
          · rw [List.length_map, List.length_map, List.length_range]
            exact small1000 (by omega)
          · have nb : b ≠ D2 := ne_of_none zz hD2
            rw [upd_ne nb]
            exact s5 b o' zz
          · rw [upd_same, List.range_succ, List.map_append, List.map_append]
            show _ = some (HO.lst (_ ++ [V.int (tieN kss (os.getD i 0) (os.getD j 0))]))
            rw [gi, gj]
        refine ⟨rfl, yes_of ?_⟩
        exact ⟨_, rfl, _, rfl, _, rfl, c, rs, kss, k, os[i], os[j], rfl, t.same s35, fine, b1, b2, ne, last⟩
      · rintro H7 ⟨s5, h5⟩
        have l6 : ((natV os).take i).length = i := by
          rw [List.length_take, lo]
          omega
        rw [l6] at h5
        have nA' : ∀ b o', H5 b = some o' → H7 b = some o' := fun b o' e => s5 b o' ((same_new hC) b o' ((same_new nA) b o' e))
        have hp : H5 D2 = none := (same_new nA).free ((same_new hC).free hD2)
        refine ⟨rs'.map V.ref, nA' _ _ u.top, ?_, fun b o' e => ?_, ?_⟩
        · rw [List.length_map, u.len, List.length_map, List.length_range]
          exact small1000 (by omega)
        · rw [upd_ne (ne_of_none e hD)]
          exact nA' b o' (s1 b o' e)
        · obtain ⟨t2, n2⟩ := u.push nD (fun r _ o' e => nA' r o' e) (ks := rowN kss os i) hp h5
          refine ⟨_, ?_, n2, fun r hr => ?_⟩
          · rw [List.range_succ, List.map_append]
            exact t2
          · rcases List.mem_append.mp hr with hr | hr
            · exact nR r hr
            · rw [List.mem_singleton] at hr
              subst hr
              exact s1.free hp
    · rintro H5 ⟨s1, rs', u, nD, nR⟩
      rw [lo] at u
      exact q D rs' H5 s1 u nD hD nR

abbrev sOrder : Stmt := topS 58
theorem scOrder : FnScope ["_law_generator_here", "_law_many", "_law_left", "_law_found", "_law_turn"] ["_law_generator_here", "_law_many"] (defScope sOrder) := ⟨rfl, rfl, rfl, by decide +kernel, rfl, by decide +kernel, by decide +kernel⟩
theorem ok_order {f : Addr} {fd : FuncData} (F : Fun K "_law_order" "_law_order" sOrder f fd) (T : Bi mg) (U : Use P w K mg base "_law_random" ["_law_generator_here", "_law_bound"] spRandom 2) : FnOk P w K mg base CX0 3 f fd ["_law_generator_here", "_law_many"] spOrder := by
  refine F.ok scOrder (fun vs H Q E h => ?_) (fun cdv A outer s H vs Q E hr h => ?_)
  · obtain ⟨g, m, n, rfl, _⟩ := h
    rfl
  · obtain ⟨g, m, n, rfl, hm, G, q⟩ := h
    refine ⟨_, pss_cons (ps_par (i := 2) (j := 3) rfl scOrder.nd rfl rfl (by decide) rfl rfl (pa_cons (pe_listRg rfl (by rfl) T.list (prg_1 (by rfl) T.range (pv 1))) (pa_cons (pe_lst pa_nil) pa_nil)) (by rfl))
      (pss_cons (ps_for PassesOwn.never rfl (pi_range1 (by rfl) T.range (pa_cons (pv 1) pa_nil)) (pg_name (i := 4) scOrder.nd rfl (Or.inl rfl))
        (pss_one (ps_expr (pe_bm PySem.F.plainAttrs_list PySem.F.slot_list_append PySem.F.type_list_append mt_append (pv 3) (pa_cons (pe_bm PySem.F.plainAttrs_list PySem.F.slot_list_pop PySem.F.type_list_pop mt_popAt (pv 2)
          (pa_cons (pe_use U hr (by rfl) (pa_cons (pv 0) (pa_cons (pe_callB call_len_seq (by rfl) T.len PySem.boot_len (pa_cons (pv 2) pa_nil)) pa_nil))) pa_nil)) pa_nil)))))
      (pss_one (ps_ret (pv 3)))), ?_⟩
    refine ⟨_, rfl, _, rfl, RgOk.of_le (by omega) (by omega) (by omega) (by omega), fun l hl => ⟨Nat.zero_le _, fun d hd => ⟨_, _, rfl, ?_⟩⟩⟩
    have ld : l ≠ d := fun z => by
      rw [← z, upd_same] at hd
      cases hd
    have hd0 : H d = none := (same_new hl).free hd
    have gl : g ≠ l := G.ne hl
    have gd : g ≠ d := G.ne hd0
    refine ⟨_, rfl, m, rfl, by omega, by omega, ?_⟩
    refine for_range (lo := 0) (n := (m : Int).toNat) (fun i σ H' => ∃ (L Fd : List Nat) (t : Option V), σ = [some (.ref g), some (.int m), some (.ref l), some (.ref d), t] ∧ But g H H' ∧ H' l = some (.lst (natV L)) ∧ H' d = some (.lst (natV Fd)) ∧
        (Fd ++ L).Perm (List.range m) ∧ Fd.length = i ∧ Gen H' g (n + 5 * (m - i)))
      ⟨List.range m, [], none, rfl, (But.new hl).trans (But.new hd), by rw [upd_ne ld, upd_same, rg_nat], upd_same, .refl _, rfl, (G.new hl).new hd⟩ ?_ ?_
    · rintro i σ H' hi ⟨L, Fd, t, rfl, bt, h1, h2, pm, lf, G'⟩
      have cnt : (Fd ++ L).length = m := by rw [pm.length_eq, List.length_range]
      rw [List.length_append] at cnt
      have him : i < m := by omega
      have lL : (natV L).length = L.length := List.length_map _
      have G2 : Gen H' g (n + 5 * (m - (i + 1)) + 5) := by
        rw [show n + 5 * (m - (i + 1)) + 5 = n + 5 * (m - i) by omega]
        exact G'
      refine ⟨_, rfl, .inl ⟨rfl, _, SqL.of h2⟩, _, rfl, .inl ⟨rfl, _, SqL.of h1⟩, _, rfl, _, rfl, l, natV L, rfl, .inl (SqL.of h1), g, (natV L).length, n + 5 * (m - (i + 1)), rfl, by omega, by omega, G2, ?_⟩
      intro r H2 r0 r1 G3 bt2
      have h1' := bt2 l _ h1 gl.symm
      have h2' := bt2 d _ h2 gd.symm
      have rk : r.toNat < L.length := by omega
      refine ⟨l, natV L, r, r.toNat, V.int (L[r.toNat] : Nat), rfl, rfl, h1', by omega, by omega, seq_in r0 r1, ?_, ?_⟩
      · unfold natV
        rw [List.getElem?_map, List.getElem?_eq_getElem rk]
        rfl
      · refine ⟨d, natV Fd, _, rfl, rfl, by rw [upd_ne ld.symm]; exact h2', ?_, ?_⟩
        · unfold natV
          rw [List.length_map]
          exact small1000 (by omega)
        · refine ⟨L.eraseIdx r.toNat, Fd ++ [L[r.toNat]], _, rfl, ?_, ?_, ?_, ?_, ?_, ?_⟩
          · intro b o e nb
            have e' := bt2 b o (bt b o e nb) nb
            rw [upd_ne (ne_of_none e hd0), upd_ne (ne_of_none e hl)]
            exact e'
          · rw [upd_ne ld, upd_same, erase_map]
          · rw [upd_same]
            unfold natV
            rw [List.map_append]
            rfl
          · refine List.Perm.trans ?_ pm
            rw [List.append_assoc]
            exact List.Perm.append_left _ (perm_erase (List.getElem?_eq_getElem rk))
          · rw [List.length_append, lf]
            rfl
          · exact (G3.other gl.symm).other gd.symm
    · rintro σ H' ⟨L, Fd, t, rfl, bt, h1, h2, pm, lf, G'⟩
      have cnt : (Fd ++ L).length = m := by rw [pm.length_eq, List.length_range]
      rw [List.length_append] at cnt
      have lf' : Fd.length = m := by omega
      have L0 : L = [] := List.length_eq_zero_iff.mp (by omega)
      subst L0
      rw [List.append_nil] at pm
      refine ⟨_, rfl, q d H' Fd bt hd0 (G'.less (by omega)) h2 pm⟩

abbrev sCompany : Stmt := topS 59
abbrev nCompany : List Str := ["_law_generator_here", "_law_kinds", "_law_many", "_law_person", "_law_found", "_law_way", "_law_one", "_law_kind", "_law_row", "_law_mate"]
theorem scCompany : FnScope nCompany ["_law_generator_here", "_law_kinds", "_law_many"] (defScope sCompany) := ⟨rfl, rfl, rfl, by decide +kernel, rfl, by decide +kernel, by decide +kernel⟩
theorem ok_company {f : Addr} {fd : FuncData} (F : Fun K "_law_company" "_law_company" sCompany f fd) (T : Bi mg) (U : Use P w K mg base "_law_random" ["_law_generator_here", "_law_bound"] spRandom 2)
    (UT : Use P w K mg base "_law_tie" ["_law_company_here", "_law_one", "_law_other"] spTie 1) (UN : Use P w K mg base "_law_named" ["_law_company_here", "_law_order_here"] spNamed 2) (UO : Use P w K mg base "_law_order" ["_law_generator_here", "_law_many"] spOrder 3) :
    FnOk P w K mg base CX0 4 f fd ["_law_generator_here", "_law_kinds", "_law_many"] spCompany := by
  refine F.ok scCompany (fun vs H Q E h => ?_) (fun cdv A outer s H vs Q E hr h => ?_)
  · obtain ⟨g, k, m, n, rfl, _⟩ := h
    rfl
  · obtain ⟨g, k, m, n, rfl, k2, k9, m1, m50, G, q⟩ := h
    have hr2 : Room 2 (A.deeper (envOfC "_law_company" (defScope sCompany) s.heap.objs.size f cdv)) := hr.mono (by decide)
    have hr1 : Room 1 (A.deeper (envOfC "_law_company" (defScope sCompany) s.heap.objs.size f cdv)) := hr.mono (by decide)
    refine ⟨_, pss_cons (ps_if (pt_cmpR op_eq (pe_use U hr2 (by rfl) (pa_cons (pv 0) (pa_cons pe_int pa_nil))) pe_int (nomark _))
        (pss_one (ps_ret (pe_lc (own := [("_law_person", 3)]) (g := gName 3) (tt := tYes) (te := tLc (iRng1 (tCons (tVar 3) tNil)) (gName 9) tYes (tCall spRandom [] E0 (tCons (tVar 0) (tCons (tVar 1) tNil))) [9]) rfl scCompany.nd (pi_range1 (by rfl) T.range (pa_cons (pv 2) pa_nil))
          (blkOk_by (N := nCompany) (sc := defScope sCompany) (by decide +kernel)) (fun _ _ _ _ _ => pg_name (i := 3) scCompany.nd rfl (Or.inl rfl)) (fun _ _ _ _ _ => pts_nil)
          (fun _ _ _ _ _ => by exact (pe_lc (own := [("_law_mate", 9)]) (g := gName 9) (tt := tYes) rfl scCompany.nd (pi_range1 (by rfl) T.range (pa_cons (pv 3) pa_nil))
            (blkOk_by (N := nCompany) (sc := relS (compScope (exprOf (stmtIn (ifBody (stmtIn (defBody sCompany) 0)) 0))) (defScope sCompany)) (by decide +kernel)) (fun _ _ _ _ _ => pg_name (i := 9) scCompany.nd rfl (Or.inl rfl))
            (fun _ _ _ _ _ => pts_nil) (fun _ _ _ _ _ => pe_use U hr2 (by rfl) (pa_cons (pv 0) (pa_cons (pv 1) pa_nil))))))) ) pss_nil)
      (pss_cons (ps_set (i := 4) scCompany.nd rfl (Or.inr rfl) (pe_lst (pa_cons (pe_lst pa_nil) pa_nil)))
      (pss_cons (ps_for PassesOwn.never rfl (pi_range2 (by rfl) T.range (pa_cons pe_int (pa_cons (pv 2) pa_nil))) (pg_name (i := 3) scCompany.nd rfl (Or.inl rfl))
        (pss_cons (ps_asg (pe_tup (pa_cons (pe_use U hr2 (by rfl) (pa_cons (pv 0) (pa_cons pe_int pa_nil))) (pa_cons (pe_use U hr2 (by rfl) (pa_cons (pv 0) (pa_cons (pv 3) pa_nil))) (pa_cons (pe_use U hr2 (by rfl) (pa_cons (pv 0) (pa_cons (pv 1) pa_nil))) pa_nil))))
            (pg_tup rfl (pgs_cons (pg_name (i := 5) scCompany.nd rfl (Or.inl rfl)) (pgs_cons (pg_name (i := 6) scCompany.nd rfl (Or.inr rfl)) (pgs_cons (pg_name (i := 7) scCompany.nd rfl (Or.inr rfl)) pgs_nil)))))
        (pss_cons (ps_set (i := 8) scCompany.nd rfl (Or.inl rfl) (pe_op op_rep (pe_lst (pa_cons (pv 7) pa_nil)) (pv 3)))
        (pss_cons (ps_if (pt_cmpR op_gt (pv 5) pe_int (nomark _))
            (pss_one (ps_setLc (i := 8) (own := [("_law_mate", 9)]) (g := gName 9) (tt := tYes) rfl scCompany.nd rfl rfl (sw_true rfl rfl rfl (by decide +kernel)) (pi_range1 (by rfl) T.range (pa_cons (pv 3) pa_nil))
              (blkOk_by (N := nCompany) (sc := defScope sCompany) (by decide +kernel)) (fun _ _ _ _ _ => pg_name (i := 9) scCompany.nd rfl (Or.inl rfl)) (fun _ _ _ _ _ => pts_nil)
              (fun _ _ _ _ _ => pe_ifExp (pt_cmpR op_eq (pv 9) (pv 6) (nomark _)) (pv 7) (pe_use UT hr1 (by rfl) (pa_cons (pv 4) (pa_cons (pv 6) (pa_cons (pv 9) pa_nil))))))) pss_nil)
        (pss_one (ps_expr (pe_bm PySem.F.plainAttrs_list PySem.F.slot_list_append PySem.F.type_list_append mt_append (pv 4) (pa_cons (pv 8) pa_nil))))))))
      (pss_one (ps_ret (pe_use UN hr2 (by rfl) (pa_cons (pv 4) (pa_cons (pe_use UO hr (by rfl) (pa_cons (pv 0) (pa_cons (pv 2) pa_nil))) pa_nil))))))), ?_⟩
    refine ⟨_, rfl, g, 3, n + 19995, rfl, by decide, by decide, G, fun r H1 r0 r1 G1 b1 => ⟨rfl, _, rfl, ite2 (fun c => ?_) (fun c => ?_)⟩⟩
    · -- drawn ties
      refine ⟨_, rfl, m, rfl, by omega, by omega, fun D hD => ?_⟩
      have hD0 : H D = none := but_free b1 G1 hD
      have gD : D ≠ g := (G.ne hD0).symm
      refine lc_it (walk_range (lo := 0) (n := (m : Int).toNat)) (fun i H' => But g H H' ∧ Gen H' g (n + 19000 - 250 * i) ∧ ∃ rs kss, Tab H' D rs kss ∧ kss.length = i ∧ Fine k kss ∧ D ∉ rs ∧ ∀ r ∈ rs, H r = none)
        ⟨b1.trans (But.new hD), (G1.new hD).less (by omega), [], [], ⟨upd_same, rfl, fun i r ks h => by simp at h, List.nodup_nil⟩, rfl, Fine.nil, by simp, by simp⟩ (fun _ _ _ _ => trivial) ?_ ?_
      · rintro i y H' H'' hi ⟨bt, G', rs, kss, t, lk, fine, nD, nR⟩ ⟨rfl, rfl⟩
        have gr : g ∉ rs := notin_new G nR
        refine ⟨rfl, yes_of ?_⟩
        refine ⟨_, rfl, (0 + (i : Int)), rfl, by omega, by omega, fun D2 hD2 => ?_⟩
        have gD2 : D2 ≠ g := (G'.ne hD2).symm
        refine lc_it (walk_range (lo := 0) (n := (0 + (i : Int)).toNat)) (fun j H5 => But g H'' H5 ∧ Gen H5 g (n + 19000 - 250 * i - 5 * j) ∧ ∃ ks : List Int, H5 D2 = some (.lst (ks.map V.int)) ∧ ks.length = j ∧ ∀ z ∈ ks, 0 ≤ z ∧ z < k)
          ⟨But.new hD2, G'.new hD2, [], upd_same, rfl, by simp⟩ (fun _ _ _ _ => trivial) ?_ ?_
        · rintro j y H5 H6 hj ⟨b5, G5, ks, h5, l5, bb⟩ ⟨rfl, rfl⟩
          refine ⟨rfl, yes_of ?_⟩
          refine ⟨_, rfl, _, rfl, g, k, n + 19000 - 250 * i - 5 * (j + 1), rfl, by omega, by omega, G5.less (by omega), fun r2 H7 q0 q1 G7 b7 => ⟨_, b7 _ _ h5 gD2, ?_, ?_, G7.other gD2, ks ++ [r2], ?_, ?_, ?_⟩⟩
          · rw [List.length_map]
            exact small1000 (by omega)
          · intro b o e nb
            rw [upd_ne (ne_of_none e hD2)]
            exact b7 b o (b5 b o e nb) nb
          · rw [upd_same, List.map_append]
            rfl
          · rw [List.length_append, l5]
            rfl
          · intro z hz
            rcases List.mem_append.mp hz with hz | hz
            · exact bb z hz
            · rw [List.mem_singleton] at hz
              subst hz
              exact ⟨q0, by omega⟩
        · rintro H5 ⟨b5, G5, ks, h5, l5, bb⟩
          obtain ⟨t2, n2⟩ := t.push nD (H4 := H5) (fun r hr o e => b5 r o e fun z => gr (by rw [← z]; exact hr)) hD2 h5
          refine ⟨_, b5 _ _ t.top gD, ?_, ?_, (G5.less (by omega)).other gD, _, _, t2, ?_, fine.push (by omega) bb, n2, ?_⟩
          · rw [List.length_map, t.len]
            exact small1000 (by omega)
          · intro b o e nb
            rw [upd_ne (ne_of_none e hD0)]
            exact b5 b o (bt b o e nb) nb
          · rw [List.length_append, lk]
            rfl
          · intro r hr
            rcases List.mem_append.mp hr with hr | hr
            · exact nR r hr
            · rw [List.mem_singleton] at hr
              subst hr
              exact but_free bt G' hD2
      · rintro H' ⟨bt, G', rs, kss, t, lk, fine, nD, nR⟩
        exact q D H' bt (G'.less (by omega)) ⟨rs, kss, t, by omega, fine, nD, hD0, nR⟩
    · -- people put beside others
      refine ⟨Nat.zero_le _, fun l0 hl0 => ⟨(by show 1 ≤ sizeLine; decide), fun f0 hf0 => ?_⟩⟩
      have hl00 : H l0 = none := but_free b1 G1 hl0
      have hf1 : H1 f0 = none := (same_new hl0).free hf0
      have hf00 : H f0 = none := but_free b1 G1 hf1
      have lf : l0 ≠ f0 := fun z => by
        rw [← z, upd_same] at hf0
        cases hf0
      have gf : g ≠ f0 := G.ne hf00
      refine ⟨_, rfl, 1, m, rfl, ⟨by omega, by omega, by omega, by omega⟩, ?_⟩
      refine for_range (lo := 1) (n := ((m : Int) - 1).toNat) (CI H g f0 k m n) ⟨none, none, none, none, none, rfl, (b1.trans (But.new hl0)).trans (But.new hf0), ((G1.new hl0).new hf0).less (by omega), [l0], [[]], ⟨upd_same, rfl, ?_, by simp⟩, rfl, ?_, ?_, hf00, ?_⟩ ?_ ?_
      · intro i r ks h1 h2
        have i0 : i = 0 := by
          have := (List.getElem?_eq_some_iff.mp h1).1
          simp at this
          exact this
        subst i0
        cases h1
        cases h2
        rw [upd_ne lf, upd_same]
        rfl
      · intro i ks h
        have i0 : i = 0 := by
          have := (List.getElem?_eq_some_iff.mp h).1
          simp at this
          exact this
        subst i0
        cases h
        exact ⟨rfl, by simp⟩
      · rw [List.mem_singleton]
        exact lf.symm
      · intro r hr
        rw [List.mem_singleton] at hr
        subst hr
        exact hl00
      · rintro i σ H' hi ⟨pv0, wv, ov, kv, rv, rfl, bt, G', rs, kss, t, lk, fine, nf, _, nR⟩
        have gr : g ∉ rs := notin_new G nR
        refine ⟨_, rfl, g, 3, n + 19000 - 15 * i - 5, rfl, by decide, by decide, G'.less (by omega), fun wy Ha w0 w1 Ga ba => ?_⟩
        refine ⟨_, rfl, _, rfl, g, 1 + (i : Int), n + 19000 - 15 * i - 10, rfl, by omega, by omega, Ga.less (by omega), fun one Hb o0 o1 Gb bb => ?_⟩
        obtain ⟨u, rfl⟩ : ∃ u : Nat, one = (u : Int) := ⟨one.toNat, by omega⟩
        refine ⟨_, rfl, _, rfl, g, k, n + 19000 - 15 * i - 15, rfl, by omega, by omega, Gb.less (by omega), fun kd Hc kk0 kk1 Gc bc => ?_⟩
        refine ⟨(by show 3 ≤ sizeLine; decide), fun t3 ht3 => ?_⟩
        refine ⟨t3, _, rfl, SqT.of upd_same, rfl, _, _, rfl, _, _, rfl, _, _, rfl, rfl, ?_⟩
        refine ⟨_, rfl, (by show 1 ≤ sizeLine; decide), fun l hl => ⟨_, rfl, l, _, _, rfl, rfl, upd_same, by omega, by omega, ?_, fun p hp => ?_⟩⟩
        · have : ([V.int kd] : List V).length * (1 + (i : Int)).toNat ≤ 1000 := by
            show 1 * (1 + (i : Int)).toNat ≤ 1000
            omega
          exact Nat.le_of_lt (small1000 this)
        have bHc : But g H' Hc := (ba.trans bb).trans bc
        have hpc : Hc p = none := (same_new ht3).free ((same_new hl).free hp)
        have hpH : H' p = none := but_free bHc Gc hpc
        have b4 : But g H' (upd (upd (upd Hc t3 (.tup [V.int wy, V.int (u : Int), V.int kd])) l (.lst [V.int kd])) p (.lst (List.replicate (1 + (i : Int)).toNat [V.int kd]).flatten)) := bHc.trans ((But.new ht3).trans ((But.new hl).trans (But.new hp)))
        have G4 : Gen (upd (upd (upd Hc t3 (.tup [V.int wy, V.int (u : Int), V.int kd])) l (.lst [V.int kd])) p (.lst (List.replicate (1 + (i : Int)).toNat [V.int kd]).flatten)) g (n + 19000 - 15 * (i + 1)) := (((Gc.new ht3).new hl).new hp).less (by omega)
        have szf : (rs.map V.ref).length < sizeLine := by
          rw [List.length_map, t.len]
          exact small1000 (by omega)
        refine ⟨_, rfl, _, _, rfl, rfl, _, rfl, ite2 (fun cw => ?_) (fun cw => ?_)⟩
        · refine ⟨_, rfl, 1 + (i : Int), rfl, by omega, by omega, fun D2 hD2 => ?_⟩
          refine lc_it (walk_range (lo := 0) (n := (1 + (i : Int)).toNat)) (fun j H5 => Same (upd (upd (upd Hc t3 (.tup [V.int wy, V.int (u : Int), V.int kd])) l (.lst [V.int kd])) p (.lst (List.replicate (1 + (i : Int)).toNat [V.int kd]).flatten)) H5 ∧ ∃ ks : List Int, H5 D2 = some (.lst (ks.map V.int)) ∧ ks.length = j ∧ ∀ z ∈ ks, 0 ≤ z ∧ z < k)
            ⟨same_new hD2, [], upd_same, rfl, by simp⟩ (fun _ _ _ _ => trivial) ?_ ?_
          · rintro j y H5 H6 hj ⟨s5, ks, h5, l5, bb5⟩ ⟨rfl, rfl⟩
            have more : ∀ (z : Int), 0 ≤ z → z < k → ∃ acc, H6 D2 = some (.lst acc) ∧ acc.length < sizeLine ∧ Same (upd (upd (upd Hc t3 (.tup [V.int wy, V.int (u : Int), V.int kd])) l (.lst [V.int kd])) p (.lst (List.replicate (1 + (i : Int)).toNat [V.int kd]).flatten)) (upd H6 D2 (.lst (acc ++ [V.int z]))) ∧
                ∃ ks : List Int, (upd H6 D2 (.lst (acc ++ [V.int z]))) D2 = some (.lst (ks.map V.int)) ∧ ks.length = j + 1 ∧ ∀ z ∈ ks, 0 ≤ z ∧ z < k := by
              intro z z0 z1
              refine ⟨_, h5, ?_, fun b o e => ?_, ks ++ [z], ?_, ?_, ?_⟩
              · rw [List.length_map]
                exact small1000 (by omega)
              · rw [upd_ne (ne_of_none e hD2)]
                exact s5 b o e
              · rw [upd_same, List.map_append]
                rfl
              · rw [List.length_append, l5]
                rfl
              · intro z' hz
                rcases List.mem_append.mp hz with hz | hz
                · exact bb5 z' hz
                · rw [List.mem_singleton] at hz
                  subst hz
                  exact ⟨z0, z1⟩
            refine ⟨rfl, yes_of ?_⟩
            refine ⟨_, rfl, _, rfl, rfl, _, rfl, ite2 (fun ce => ?_) (fun ce => ?_)⟩
            · exact ⟨_, rfl, more kd kk0 (by omega)⟩
            · have ne : u ≠ j := fun z => ce (by
                subst z
                exact decide_eq_true (show V.int (0 + (u : Int)) = V.int (u : Int) by rw [Int.zero_add]))
              have tin := tieN_in fine (by omega : u < kss.length) (by omega : j < kss.length) ne
              refine ⟨_, rfl, _, rfl, _, rfl, f0, rs, kss, k, u, j, (show [V.ref f0, V.int (u : Int), V.int (0 + (j : Int))] = [V.ref f0, V.int (u : Int), V.int (j : Int)] by rw [Int.zero_add]), (t.but b4 gf.symm gr).same s5, fine, by omega, by omega, ne, more _ tin.1 tin.2⟩
          · rintro H5 ⟨s5, ks, h5, l5, bb5⟩
            obtain ⟨e1, e2⟩ := CI.next (k := k) (m := m) (n := n) (pv := some (V.int (1 + (i : Int)))) (wv := some (V.int wy)) (ov := some (V.int (u : Int))) (kv := some (V.int kd)) (rv := some (V.ref D2)) G bt G' t lk fine nf hf00 nR (b4.trans (.of s5)) (G4.same s5) (but_free b4 G4 hD2) h5 (by omega) bb5
            exact ⟨_, rfl, .inl ⟨rfl, _, SqL.of e1⟩, _, rfl, f0, _, _, rfl, rfl, e1, szf, e2⟩
        · obtain ⟨e1, e2⟩ := CI.next (k := k) (m := m) (n := n) (ks := List.replicate (1 + (i : Int)).toNat kd) (pv := some (V.int (1 + (i : Int)))) (wv := some (V.int wy)) (ov := some (V.int (u : Int))) (kv := some (V.int kd)) (rv := some (V.ref p)) G bt G' t lk fine nf hf00 nR b4 G4 hpH (by rw [upd_same, rep_one]) (by rw [List.length_replicate]; omega) (fun z hz => by
            rw [List.eq_of_mem_replicate hz]
            exact ⟨kk0, by omega⟩)
          exact ⟨_, rfl, .inl ⟨rfl, _, SqL.of e1⟩, _, rfl, f0, _, _, rfl, rfl, e1, szf, e2⟩
      · rintro σ H' ⟨pv0, wv, ov, kv, rv, rfl, bt, G', rs, kss, t, lk, fine, nf, _, nR⟩
        have gr : g ∉ rs := notin_new G nR
        refine ⟨_, rfl, _, rfl, _, rfl, g, m, n + 1000, rfl, by omega, G'.less (by omega), fun o Ho os bo ho Go hos pm => ?_⟩
        have nd : os.Nodup := pm.nodup_iff.mpr List.nodup_range
        have lo : os.length = m := by rw [pm.length_eq, List.length_range]
        have bd : ∀ j ∈ os, j < kss.length := fun j hj => by
          have := List.mem_range.mp (pm.mem_iff.mp hj)
          omega
        refine ⟨f0, o, rs, kss, k, os, rfl, t.but bo gf.symm gr, fine, hos, nd, bd, by omega, fun p ps Hp sp u np hp hn => ?_⟩
        have cp : CoN Ho Hp k p m := ⟨ps, namedK kss os, u, by rw [named_len]; exact lo, named_fine fine nd bd, np, hp, hn⟩
        exact q p Hp ((bt.trans bo).trans (.of sp)) ((Go.same sp).less (by omega)) (cp.back fun a ha => but_free (bt.trans bo) Go ha)

abbrev sAlike2 : Stmt := topS 55
abbrev nAlike2 : List Str := ["_law_company_here", "_law_one", "_law_other", "_law_person"]
theorem scAlike2 : FnScope nAlike2 ["_law_company_here", "_law_one", "_law_other"] (defScope sAlike2) := ⟨rfl, rfl, rfl, by decide +kernel, rfl, by decide +kernel, by decide +kernel⟩
theorem ok_alike2 {f : Addr} {fd : FuncData} (F : Fun K "_law_alike" "_law_alike" sAlike2 f fd) (T : Bi mg) (UT : Use P w K mg base "_law_tie" ["_law_company_here", "_law_one", "_law_other"] spTie 1) : FnOk P w K mg base CX0 2 f fd ["_law_company_here", "_law_one", "_law_other"] spAlike2 := by
  refine F.ok scAlike2 (fun vs H Q E h => ?_) (fun cdv A outer s H vs Q E hr h => ?_)
  · obtain ⟨c, rs, kss, k, a, b, rfl, _⟩ := h
    rfl
  · obtain ⟨c, rs, kss, k, a, b, rfl, t, fine, n100, al, bl, q⟩ := h
    refine ⟨_, pss_cons (ps_for PassesOwn.never rfl (pi_range1 (by rfl) T.range (pa_cons (pe_callB call_len_seq (by rfl) T.len PySem.boot_len (pa_cons (pv 0) pa_nil)) pa_nil)) (pg_name (i := 3) scAlike2.nd rfl (Or.inl rfl))
        (pss_one (ps_if (PW.pt (pw_and (pt_cmpR op_ne (pv 3) (pv 1) (nomark _)) (pw_and (pt_cmpR op_ne (pv 3) (pv 2) (nomark _)) (pw_and1 (pt_cmpR op_ne (pe_use UT hr (by rfl) (pa_cons (pv 0) (pa_cons (pv 3) (pa_cons (pv 1) pa_nil)))) (pe_use UT hr (by rfl) (pa_cons (pv 0) (pa_cons (pv 3) (pa_cons (pv 2) pa_nil)))) (nomark _))))))
          (pss_one (ps_ret pe_bl)) pss_nil)))
      (pss_one (ps_ret pe_bl)), ?_⟩
    have lr : (rs.map V.ref).length = kss.length := by rw [List.length_map, t.len]
    refine ⟨_, rfl, c, _, rfl, .inl (SqL.of t.top), _, rfl, by omega, by omega, ?_⟩
    rw [lr]
    refine for_range (lo := 0) (n := (kss.length : Int).toNat) (fun i σ H' => ∃ m : Option V, σ = [some (.ref c), some (.int a), some (.int b), m] ∧ H' = H ∧ ∀ j, j < i → (j == a || j == b || decide (tieN kss j a = tieN kss j b)) = true)
      ⟨none, rfl, rfl, fun j hj => absurd hj (Nat.not_lt_zero j)⟩ ?_ ?_
    · rintro i σ H' hi ⟨m, rfl, rfl, yes⟩
      have il : i < kss.length := by omega
      have i0 : (0 + (i : Int)) = (i : Int) := Int.zero_add _
      have next : (i == a || i == b || decide (tieN kss i a = tieN kss i b)) = true → ∃ m : Option V, [some (V.ref c), some (.int a), some (.int b), some (.int (0 + (i : Int)))] = [some (.ref c), some (.int a), some (.int b), m] ∧ H' = H' ∧ ∀ j, j < i + 1 → (j == a || j == b || decide (tieN kss j a = tieN kss j b)) = true := fun z =>
        ⟨_, rfl, rfl, fun p hp => by
          by_cases c : p = i
          · subst c
            exact z
          · exact yes p (by omega)⟩
      have dn : ∀ x : Nat, decide (V.int (0 + (i : Int)) = V.int (x : Nat)) = (i == x) := fun x => by
        rw [i0]
        by_cases c : i = x
        · subst c; simp
        · have : ¬ ((i : Nat) : Int) = (x : Nat) := by omega
          simp [c, this]
      refine ⟨_, rfl, _, rfl, rfl, _, rfl, ?_⟩
      rw [dn]
      by_cases ia : i = a
      · have e : (i == a) = true := by simpa using ia
        rw [e]
        exact iteF (iteF (next (by rw [ia]; simp)))
      · have eA : (i == a) = false := by simpa using ia
        rw [eA]
        refine iteT ⟨_, rfl, _, rfl, rfl, _, rfl, ?_⟩
        rw [dn]
        by_cases ib : i = b
        · have e : (i == b) = true := by simpa using ib
          rw [e]
          exact iteF (iteF (next (by rw [ib]; simp)))
        · have eB : (i == b) = false := by simpa using ib
          rw [eB]
          refine iteT ⟨_, rfl, _, rfl, _, rfl, c, rs, kss, k, i, a, (show [V.ref c, V.int (0 + (i : Int)), V.int (a : Int)] = [V.ref c, V.int (i : Int), V.int (a : Int)] by rw [i0]), t, fine, il, al, ia, ?_⟩
          refine ⟨_, rfl, _, rfl, _, rfl, c, rs, kss, k, i, b, (show [V.ref c, V.int (0 + (i : Int)), V.int (b : Int)] = [V.ref c, V.int (i : Int), V.int (b : Int)] by rw [i0]), t, fine, il, bl, ib, rfl, _, rfl, ?_⟩
          by_cases c3 : tieN kss i a = tieN kss i b
          · refine iteNS (by rw [c3]) ?_
            exact next (by rw [c3]; simp)
          · have ef : alikeB kss a b = false := by
              cases h : alikeB kss a b with
              | false => rfl
              | true =>
                have := List.all_eq_true.mp h i (List.mem_range.mpr il)
                rw [eA, eB] at this
                simp [c3] at this
            rw [ef] at q
            exact ite2 (fun _ => q) (fun z => (z (by simp [c3])).elim)
    · rintro σ H' ⟨m, rfl, rfl, yes⟩
      have ea : alikeB kss a b = true := List.all_eq_true.mpr fun j hj => yes j (by have := List.mem_range.mp hj; omega)
      rw [ea] at q
      exact q

end
def spDeedsM : Sp := fun vs H Q _ => ∃ (k : Int) (c : Addr) (rs : List Addr) (kss : List (List Int)), vs = [.int k, .ref c] ∧ 2 ≤ k ∧ k ≤ 9 ∧ Tab H c rs kss ∧ Fine k kss ∧ kss.length ≤ 40 ∧
  ∀ (p : Addr) (ts : List DeedT) (H' : Hp), Same H H' → H p = none → Deeds H H' p ts → ts.map (·.2) = deedsL k kss → Q (.ref p) H'
section
variable {P : Program} {w : World} {K : PySem.W.Frag} {mg : Str → Option Value} {base : Heap}
abbrev sDeedsM : Stmt := topS 60
abbrev nDeedsM : List Str := ["_law_kinds", "_law_company_here", "_law_found", "_law_one", "_law_other", "_law_kind"]
theorem scDeedsM : FnScope nDeedsM ["_law_kinds", "_law_company_here"] (defScope sDeedsM) := ⟨rfl, rfl, rfl, by decide +kernel, rfl, by decide +kernel, by decide +kernel⟩
theorem ok_deedsM {f : Addr} {fd : FuncData} (F : Fun K "_law_deeds" "_law_deeds" sDeedsM f fd) (T : Bi mg) (ULtie : Use P w K mg base "_law_tie" ["_law_company_here", "_law_one", "_law_other"] spTie 1) (ULalike : Use P w K mg base "_law_alike" ["_law_company_here", "_law_one", "_law_other"] spAlike2 2) (ULcouples : Use P w K mg base "_law_couples" ["_law_many"] spCouples 1) : FnOk P w K mg base CX0 3 f fd ["_law_kinds", "_law_company_here"] spDeedsM := by
  refine F.ok scDeedsM (fun vs H Q E h => ?_) (fun cdv A outer s H vs Q E hr h => ?_)
  · obtain ⟨k, c, rs, kss, rfl, _⟩ := h
    rfl
  · obtain ⟨k, c, rs, kss, rfl, k2, k9, t, fine, n40, q⟩ := h
    refine ⟨_, (pss_cons (ps_set (i := 2) scDeedsM.nd rfl (Or.inl rfl) (pe_lst pa_nil))
      (pss_cons (ps_for PassesOwn.never rfl (pi_list (pe_use ULcouples (hr.mono (by decide)) (by rfl) (pa_cons (pe_callB call_len_seq (by rfl) T.len PySem.boot_len (pa_cons (pv 1) pa_nil)) pa_nil))) (pg_tup rfl (pgs_cons (pg_name (i := 3) scDeedsM.nd rfl (Or.inr rfl)) (pgs_cons (pg_name (i := 4) scDeedsM.nd rfl (Or.inr rfl)) pgs_nil)))
        (pss_one (ps_if (pt_val (pe_use ULalike hr (by rfl) (pa_cons (pv 1) (pa_cons (pv 3) (pa_cons (pv 4) pa_nil)))))
          (pss_one (ps_set (i := 2) scDeedsM.nd rfl (Or.inl rfl) (pe_op op_cat (pv 2) (pe_lc (own := [("_law_kind", 5)]) (g := (gName 5)) (tt := (tTest (tOp rNe (tVar 5) (tCall spTie [] E0 (tCons (tVar 1) (tCons (tVar 3) (tCons (tVar 4) tNil))))))) (te := (tTup (tCons (tVar 3) (tCons (tVar 4) (tCons (tVar 5) tNil))))) rfl scDeedsM.nd (pi_range1 (by rfl) T.range (pa_cons (pv 0) pa_nil))
            (blkOk_by (N := nDeedsM) (sc := (defScope sDeedsM)) (by decide +kernel)) (fun _ _ _ _ _ => (pg_name (i := 5) scDeedsM.nd rfl (Or.inl rfl))) (fun _ _ _ _ _ => by exact (pts_one (pt_cmpR op_ne (pv 5) (pe_use ULtie (hr.mono (by decide)) (by rfl) (pa_cons (pv 1) (pa_cons (pv 3) (pa_cons (pv 4) pa_nil)))) (nomark _))))
            (fun _ _ _ _ _ => by exact (pe_tup (pa_cons (pv 3) (pa_cons (pv 4) (pa_cons (pv 5) pa_nil))))))))) pss_nil)))
      (pss_one (ps_ret (pv 2))))), ?_⟩
    obtain ⟨n, hn⟩ : ∃ n, kss.length = n := ⟨_, rfl⟩
    have lr : (rs.map V.ref).length = n := by rw [List.length_map, t.len, hn]
    refine ⟨Nat.zero_le _, fun f0 hf0 => ?_⟩
    obtain ⟨H1, e1, s1, f1⟩ := gen H hf0 (.lst [])
    rw [e1]
    clear e1
    refine ⟨_, rfl, c, _, rfl, .inl (SqL.of (s1 _ _ t.top)), n, by rw [lr]; rfl, by omega, fun L ts H2 s2 nL R ec => ?_⟩
    have s02 := s1.trans s2
    have fl : ∀ l : List (Nat × Nat), (l.flatMap fun c => kindsOf kss c k.toNat).length ≤ l.length * 9 := fun l => by
      induction l with
      | nil => simp
      | cons a l ih =>
        rw [List.flatMap_cons, List.length_append, List.length_cons, Nat.succ_mul]
        have := kinds_len kss a k.toNat
        omega
    have lts : ts.length ≤ 1600 := by
      have h1 := congrArg List.length ec
      rw [List.length_map] at h1
      rw [h1]
      exact Nat.le_trans (cpl_len n n) (Nat.mul_le_mul (by omega : n ≤ 40) (by omega : n ≤ 40))
    refine ⟨L, rfl, ⟨_, SqL.of R.top⟩, ?_⟩
    refine for_list (K := K) (a := L) (xs := ts.map fun t => V.ref t.1) (fun i σ H' => ∃ (f : Addr) (x y : Option V), σ = [some (.int k), some (.ref c), some (.ref f), x, y, none] ∧ Same H H' ∧ Same H2 H' ∧ H f = none ∧ ∃ us, Deeds H H' f us ∧ us.map (·.2) = (((cplTo n n).take i).filter fun c => alikeB kss c.1 c.2).flatMap fun c => kindsOf kss c k.toNat)
      ⟨f0, _, _, rfl, s02, Same.refl _, hf0, [], ⟨s2 _ _ f1, by simp, by simp⟩, rfl⟩ (fun i σ H' _ z => by
        obtain ⟨_, _, _, _, _, s', _⟩ := z
        exact SqL.of (s' _ _ R.top)) ?_ ?_
    · rintro i y σ H3 hi ⟨f, x0, y0, rfl, s3, s23, nf, us, U, eu⟩
      rw [List.getElem?_map] at hi
      cases et : ts[i]? with
      | none =>
        rw [et] at hi
        cases hi
      | some v =>
        rw [et] at hi
        cases hi
        obtain ⟨ad, a, b⟩ := v
        have vm := List.mem_of_getElem? et
        have ea : (cplTo n n)[i]? = some (a, b) := by
          rw [← ec, List.getElem?_map, et]
          rfl
        obtain ⟨w1, w2, w3⟩ := (cpl_mem _ _ a b).mp (List.mem_of_getElem? ea)
        have lu : us.length ≤ 14400 := by
          have h1 := congrArg List.length eu
          rw [List.length_map] at h1
          have h2 := fl (((cplTo n n).take i).filter fun c => alikeB kss c.1 c.2)
          have h3 := List.length_filter_le (fun c : Nat × Nat => alikeB kss c.1 c.2) ((cplTo n n).take i)
          rw [List.length_take] at h3
          have h4 : (cplTo n n).length ≤ 1600 := Nat.le_trans (cpl_len n n) (Nat.mul_le_mul (by omega : n ≤ 40) (by omega : n ≤ 40))
          omega
        have tk := cpl_take (f := fun c : Nat × Nat => alikeB kss c.1 c.2) ea
        refine ⟨ad, _, rfl, SqT.of (s23 _ _ (R.row _ vm)), rfl, _, _, rfl, _, _, rfl, rfl, ?_⟩
        have t3 := t.same s3
        refine ⟨_, rfl, _, rfl, _, rfl, c, rs, kss, k, a, b, rfl, t3, fine, by omega, by omega, by omega, _, rfl, ?_⟩
        cases al : alikeB kss a b with
        | false =>
          refine iteF ⟨f, _, _, rfl, s3, s23, nf, us, U, ?_⟩
          rw [tk, al, if_neg (by decide), List.append_nil]
          exact eu
        | true =>
          refine iteT ⟨_, rfl, ?_⟩
          refine ⟨_, rfl, k, rfl, by omega, by omega, fun D hD => ?_⟩
          refine lc_it (walk_nat (n := k.toNat)) (fun j H' => Same H3 H' ∧ ∃ ds, Deeds H H' D ds ∧ ds.map (·.2) = kindsOf kss (a, b) j)
            ⟨same_new hD, [], ⟨upd_same, by simp, by simp⟩, rfl⟩ (fun _ _ _ _ => trivial) ?_ ?_
          · rintro j y H6 H7 hj ⟨s6, ds6, U6, e6⟩ ⟨rfl, rfl⟩
            have t6 := t3.same s6
            refine ⟨rfl, ?_⟩
            refine ⟨_, rfl, _, rfl, _, rfl, _, rfl, c, rs, kss, k, a, b, rfl, t6, fine, by omega, by omega, by omega, rfl, _, rfl, ?_⟩
            have fd : decide (V.int ((j : Nat) : Int) = V.int (tieN kss a b)) = decide (((j : Nat) : Int) = tieN kss b a) := by
              rw [tieN_comm kss a b]
              exact decide_eq_decide.mpr ⟨fun z => by injection z, fun z => by rw [z]⟩
            rw [fd]
            have km := kinds_more kss (a, b) j
            cases e0 : decide (((j : Nat) : Int) = tieN kss b a) with
            | true =>
              refine iteF ⟨s6, ds6, U6, ?_⟩
              rw [km, e0]
              exact e6.trans (by simp)
            | false =>
              refine iteT ⟨_, rfl, _, rfl, _, rfl, (by show 3 ≤ sizeLine; decide), fun p hp => ?_⟩
              obtain ⟨H8, e8, s8, f8⟩ := gen H7 hp (.tup [.int (a : Nat), .int (b : Nat), .int (j : Nat)])
              rw [e8]
              clear e8
              have f8' : H8 p = some (.tup (deedV3 (a, b, ((j : Nat) : Int)))) := f8
              refine ⟨_, s8 _ _ U6.top, ?_, fun x o e' => ?_, ds6 ++ [(p, (a, b, ((j : Nat) : Int)))], U6.push s8 hp (s3.free (s6.free hp)) f8', ?_⟩
              · have h1 := congrArg List.length e6
                rw [List.length_map] at h1
                have h3 := kinds_len kss (a, b) j
                rw [List.length_map, sizeLine_eq]
                omega
              · rw [upd_ne (ne_of_none e' hD)]
                exact s8 _ _ (s6 _ _ e')
              · rw [List.map_append, e6, km, e0]
                rfl
          · rintro H6 ⟨s6, ds6, U6, e6⟩
            have l6 : ds6.length ≤ 9 := by
              have h1 := congrArg List.length e6
              rw [List.length_map] at h1
              have := kinds_len kss (a, b) k.toNat
              omega
            refine ⟨f, D, _, _, rfl, rfl, s6 _ _ U.top, U6.top, ?_, fun p hp => ?_⟩
            · rw [List.length_map, List.length_map, sizeLine_eq]
              omega
            · obtain ⟨H8, e8, s8, f8⟩ := gen H6 hp (.lst ((us.map fun t => V.ref t.1) ++ (ds6.map fun t => V.ref t.1)))
              rw [e8]
              clear e8
              have s38 := s6.trans s8
              refine ⟨p, _, _, rfl, s3.trans s38, s23.trans s38, s3.free (s6.free hp), us ++ ds6, ⟨?_, ?_, ?_⟩, ?_⟩
              · rw [f8, List.map_append]
              · intro u hu
                rcases List.mem_append.mp hu with hu | hu
                · exact s38 _ _ (U.row u hu)
                · exact s8 _ _ (U6.row u hu)
              · intro u hu
                rcases List.mem_append.mp hu with hu | hu
                · exact U.new u hu
                · exact U6.new u hu
              · rw [List.map_append, eu, e6, tk, al, List.flatMap_append]
                simp
    · rintro σ H3 ⟨f, x0, y0, rfl, s3, s23, nf, us, U, eu⟩
      have l1 : (ts.map fun t => V.ref t.1).length = (cplTo n n).length := by rw [List.length_map, ← ec, List.length_map]
      rw [l1, List.take_length] at eu
      refine ⟨_, rfl, q f us H3 s3 nf U ?_⟩
      rw [eu]
      unfold deedsL
      rw [hn]

end
end K05

namespace GL
open PySem PySem.Spec PyProof.Rows L2
/-! ### the classes of errors, all together -/
/-- the classes ns, each under the one that is caught -/
structure Errs (ns : List Str) (K : PySem.W.Frag) (mg : Str → Option Value) (er : Str → Addr) : Prop where
  tie : mg "TieError" = some (.ref (er "TieError"))
  own : ∀ x ∈ ns, ∃ fI, Err K mg x (er x) fI
  exm : ∀ x ∈ ns, PySem.W.exmOne K (.ref (er x)) (.ref (er "TieError")) = some true
  vN : mg "ValueError" = none
  val : ∀ x ∈ ns, PySem.W.kitOne K (.ref (er x)) (.type "ValueError") = some true
  kit : ∀ x ∈ ns, ∀ y ∈ ns, PySem.W.kitOne K (.ref (er x)) (.ref (er y)) = some (decide (x = y))
  exy : ∀ x ∈ ns, ∀ y ∈ ns, PySem.W.exmOne K (.ref (er x)) (.ref (er y)) = some (decide (x = y))
theorem Errs.mg {ns : List Str} {K : PySem.W.Frag} {mg : Str → Option Value} {er : Str → Addr} (E : Errs ns K mg er) {x : Str} (h : x ∈ ns) : mg x = some (.ref (er x)) := by
  obtain ⟨fI, e⟩ := E.own x h
  exact e.g
/-! ### what is refused stays refused as things are made -/
theorem RefC.later {er : Str → Addr} {H H' : Hp} {x y : V} {dk dc : PyData} {E : XK} (s : Same H H') (h : RefC er H x y dk dc E) : RefC er H' x y dk dc E := by
  rcases h with ⟨h, r⟩ | ⟨k, e, hk, hc, r⟩
  · exact .inl ⟨h, r.later s⟩
  · exact .inr ⟨k, e, hk, hc, r.later s⟩
theorem GoodC.later {H H' : Hp} {x y : V} {dk : PyData} {k : Int} {c : Addr} {rs : List Addr} {kss : List (List Int)} (s : Same H H') (g : GoodC H x y dk k c rs kss) : GoodC H' x y dk k c rs kss :=
  ⟨g.ex, g.ey, g.ek, g.k2, g.k9, g.t.same s, g.fine, g.one, g.most⟩
/-- a promise that only refuses: it goes with what is made, and asks nothing of what comes back -/
def Later (sp : Sp) : Prop := ∀ (vs : List V) (H H' : Hp) (Q Q' : VK) (E : XK), Same H H' → sp vs H Q E → sp vs H' Q' E
section
variable {K : PySem.W.Frag} {er : Str → Addr}
theorem later_one : Later (spOne K er) := fun vs H H' Q Q' E s ⟨x, y, dk, e, d, kf, r⟩ => ⟨x, y, dk, e, d.same s, kf, r.later s⟩
theorem later_two : Later (spTwo K er) := fun vs H H' Q Q' E s ⟨x, y, dk, dc, e, d, d2, r⟩ => ⟨x, y, dk, dc, e, d.same s, d2.same s, r.later s⟩
theorem later_three {nz : Str} {bad : Int → List (List Int) → PyData → Prop} : Later (spThree nz bad K er) := by
  rintro vs H H' Q Q' E s ⟨x, y, z, dk, dc, dz, e, d, d2, d3, h⟩
  refine ⟨x, y, z, dk, dc, dz, e, d.same s, d2.same s, d3.same s, ?_⟩
  rcases h with r | ⟨k, c, rs, kss, g, b, r⟩
  · exact .inl (r.later s)
  · exact .inr ⟨k, c, rs, kss, g.later s, b, r.later s⟩
theorem later_differ : Later (spDifferX K er) := by
  rintro vs H H' Q Q' E s ⟨x, y, z, dk, dc, dz, e, d, d2, d3, h⟩
  refine ⟨x, y, z, dk, dc, dz, e, d.same s, d2.same s, d3.same s, ?_⟩
  rcases h with r | ⟨k, c, rs, kss, g, ⟨b, r⟩ | ⟨b, b2, r⟩⟩
  · exact .inl (r.later s)
  · exact .inr ⟨k, c, rs, kss, g.later s, .inl ⟨b, r.later s⟩⟩
  · exact .inr ⟨k, c, rs, kss, g.later s, .inr ⟨b, b2, r.later s⟩⟩
theorem later_led : Later (spLedX K er) := by
  rintro vs H H' Q Q' E s ⟨x, y, z, dk, dc, dz, e, d, d2, d3, h⟩
  refine ⟨x, y, z, dk, dc, dz, e, d.same s, d2.same s, d3.same s, ?_⟩
  rcases h with r | ⟨k, c, rs, kss, g, ⟨b, r⟩ | ⟨r, xs, ds, v, e1, e2, hr, l, lt, hv, f⟩⟩
  · exact .inl (r.later s)
  · exact .inr ⟨k, c, rs, kss, g.later s, .inl ⟨b, r.later s⟩⟩
  · exact .inr ⟨k, c, rs, kss, g.later s, .inr ⟨r, xs, ds, v, e1, e2, s _ _ hr, l, lt, hv, f.later s⟩⟩
end
/-! ### data whose repr is known to fit -/
def ShowOk (d : PyData) : Prop := d.showable = true ∧ d.shown.length ≤ sizeLine ∧ d.depth ≤ 60
theorem Fit.nice {n : Nat} {d : PyData} (h : Nice n d) : Fit (Bound n) (n + 1) d := h.shown
theorem Fit.show {B k : Nat} {d : PyData} (h : Fit B k d) (b : B ≤ 16777216) (l : k ≤ 60) : ShowOk d := h.fits b l
/-! ### literals -/
/-- what is new in H' -/
def newH (H H' : Hp) : Hp := fun b => if (H b).isNone then H' b else none
theorem newH_le {H H' : Hp} : Same (newH H H') H' := fun b o e => by
  unfold newH at e
  cases h : H b with
  | none =>
    rw [h] at e
    exact e
  | some x =>
    rw [h] at e
    cases e
theorem newH_of {H H' : Hp} {b : Addr} (h : H b = none) : newH H H' b = H' b := by
  unfold newH
  rw [h]
  rfl
theorem newH_old {H H' : Hp} {b : Addr} {o : HO} (h : H b = some o) : newH H H' b = none := by
  unfold newH
  rw [h]
  rfl
theorem newH_fwd {H H1 H2 : Hp} (s : Same H1 H2) : Same (newH H H1) (newH H H2) := fun b o e => by
  cases h : H b with
  | none =>
    rw [newH_of h] at e ⊢
    exact s b o e
  | some x =>
    rw [newH_old h] at e
    cases e
theorem newH_in {H H1 H2 : Hp} (s : Same H H1) : Same (newH H1 H2) (newH H H2) := fun b o e => by
  cases h : H b with
  | none =>
    rw [newH_of h]
    exact newH_le b o e
  | some x =>
    rw [newH_old (s b x h)] at e
    cases e
/-- the reading of an expression that gives new data; f says which, as the slots are -/
def tD (K : PySem.W.Frag) (ok : L2.St → Prop) (f : L2.St → PyData) : TE := fun σ H Q => ok σ ∧ ∀ v H', Same H H' → Dt K (newH H H') v (f σ) → Q v H'
def tDs (K : PySem.W.Frag) (ok : L2.St → Prop) (f : L2.St → List PyData) : TA := fun σ H Q => ok σ ∧ ∀ vs H', Same H H' → Dts K (newH H H') vs (f σ) → Q vs H'
def Ok0 : L2.St → Prop := fun _ => True
def Ok2 (a b : L2.St → Prop) : L2.St → Prop := fun σ => a σ ∧ b σ
def intAt (i : Nat) (σ : L2.St) : PyData := match σ[i]? with | some (some (.int n)) => .int n | _ => .none
def OkI (i : Nat) : L2.St → Prop := fun σ => ∃ n, σ[i]? = some (some (.int n))
section
variable {X : Cx} {ok ok2 : L2.St → Prop} {f : L2.St → PyData} {fs : L2.St → List PyData} {e : Expr} {es : List Expr} {te : TE}
theorem pd_of (h : PE X e te) (w : ∀ σ H Q, tD X.K ok f σ H Q → te σ H Q) : PE X e (tD X.K ok f) := ⟨fun pins s σ H Q I q => h.run pins s σ H Q I (w _ _ _ q)⟩
theorem pd_c {v : V} {d : PyData} (h : PE X e (tC v)) (w : ∀ H, Dt X.K H v d) : PE X e (tD X.K Ok0 fun _ => d) := pd_of h fun σ H Q q => q.2 v H (Same.refl _) (w _)
theorem pd_int {i : Int} (h : PE X e (tC (.int i))) : PE X e (tD X.K Ok0 fun _ => .int i) := pd_c h fun _ => .int i
theorem pd_bl {b : Bool} (h : PE X e (tC (.bl b))) : PE X e (tD X.K Ok0 fun _ => .bool b) := pd_c h fun _ => .bl b
theorem pd_str {x : Str} (h : PE X e (tC (.str x))) : PE X e (tD X.K Ok0 fun _ => .str x) := pd_c h fun _ => .str x
theorem pd_non (h : PE X e (tC .non)) : PE X e (tD X.K Ok0 fun _ => .none) := pd_c h fun _ => .non
theorem pd_sub {i j : Int} (h : PE X e (tOp (rI0 fun i j => .int (i - j)) (tC (.int i)) (tC (.int j)))) : PE X e (tD X.K Ok0 fun _ => .int (i - j)) := pd_of h fun σ H Q q => ⟨_, _, rfl, rfl, q.2 _ H (Same.refl _) (.int _)⟩
theorem pd_pow {i j : Int} (h : PE X e (tOp (rI CPow fun i j => .int (i ^ j.toNat)) (tC (.int i)) (tC (.int j)))) (c : CPow i j) : PE X e (tD X.K Ok0 fun _ => .int (i ^ j.toNat)) := pd_of h fun σ H Q q => ⟨_, _, rfl, rfl, c, q.2 _ H (Same.refl _) (.int _)⟩
theorem pds_nil : PA X [] (tDs X.K Ok0 fun _ => []) := ⟨fun pos pins s σ H Q I q => pa_nil.run pos pins s σ H Q I (q.2 [] H (Same.refl _) .nil)⟩
theorem pds_cons (a : PE X e (tD X.K ok f)) (b : PA X es (tDs X.K ok2 fs)) (hs : starEach (e :: es) X.env = (false, eval e X.env) :: starEach es X.env := by rfl) : PA X (e :: es) (tDs X.K (Ok2 ok ok2) fun σ => f σ :: fs σ) :=
  ⟨fun pos pins s σ H Q I q => (pa_cons a b hs).run pos pins s σ H Q I ⟨q.1.1, fun v H1 s1 d => ⟨q.1.2, fun vs H2 s2 ds => q.2 (v :: vs) H2 (s1.trans s2) (.cons (d.same (newH_fwd s2)) (Dts.same (newH_in s1) _ _ ds))⟩⟩⟩
theorem pd_list {pos : Pos} (h : PA X es (tDs X.K ok fs)) (l : ∀ σ, (fs σ).length ≤ sizeLine) : PE X (.List es pos) (tD X.K ok fun σ => .list (fs σ)) :=
  pd_of (pe_lst h) fun σ H Q q => ⟨q.1, fun vs H1 s1 ds => ⟨by rw [ds.length]; exact l σ, fun p hp => by
    obtain ⟨H2, e2, s2, f2⟩ := gen H1 hp (.lst vs)
    rw [e2]
    exact q.2 _ _ (s1.trans s2) (.lst (by rw [newH_of (s1.free hp)]; exact f2) (Dts.same (newH_fwd s2) _ _ ds))⟩⟩
theorem pd_tup {x1} {pos : Pos} (h : PA X es (tDs X.K ok fs)) (l : ∀ σ, (fs σ).length ≤ sizeLine) : PE X (.Tuple es x1 pos) (tD X.K ok fun σ => .tuple (fs σ)) :=
  pd_of (pe_tup h) fun σ H Q q => ⟨q.1, fun vs H1 s1 ds => ⟨by rw [ds.length]; exact l σ, fun p hp => by
    obtain ⟨H2, e2, s2, f2⟩ := gen H1 hp (.tup vs)
    rw [e2]
    exact q.2 _ _ (s1.trans s2) (.tup (by rw [newH_of (s1.free hp)]; exact f2) (Dts.same (newH_fwd s2) _ _ ds))⟩⟩
theorem pd_dct (h : PE X e tDNewK) : PE X e (tD X.K Ok0 fun _ => .dict []) := pd_of h fun σ H Q q p hp => by
  obtain ⟨H2, e2, s2, f2⟩ := gen H hp (.dK [])
  rw [e2]
  exact q.2 _ _ s2 (.dct (by rw [newH_of hp]; exact f2))
theorem pd_var {i : Nat} (h : PE X e (tVar i)) : PE X e (tD X.K (OkI i) (intAt i)) := pd_of h fun σ H Q q => by
  obtain ⟨⟨n, en⟩, q⟩ := q
  refine ⟨_, en, q _ H (Same.refl _) ?_⟩
  unfold intAt
  rw [en]
  exact .int n
end
end GL

namespace GL
open PySem PySem.Spec PyProof.Rows L2
/-! ### the functions of companies and deeds by their number -/
def doorTwo (K : PySem.W.Frag) (er : Str → Addr) (d : Nat) : Sp := if d = 0 then spOne K er else spTwo K er
def doorThree (K : PySem.W.Frag) (er : Str → Addr) : Nat → Sp
  | 0 => spTieX K er
  | 1 => spTieX K er
  | 2 => spAmongX K er
  | 3 => spRenamedX K er
  | 4 => spDifferX K er
  | 5 => spHeadX K er
  | 6 => spDoneX K er
  | 7 => spLedX K er
  | _ => spHeadX K er
/-- the function d refuses xs, so as E says -/
def Bad (K : PySem.W.Frag) (er : Str → Addr) (d : Nat) (xs : List V) (H : Hp) (E : XK) : Prop :=
  (d < 3 ∧ (∃ x y, xs = [x, y]) ∧ doorTwo K er d xs H (fun _ _ => False) E) ∨ (d < 9 ∧ (∃ x y z, xs = [x, y, z]) ∧ doorThree K er d xs H (fun _ _ => False) E)
def spCalled (K : PySem.W.Frag) (er : Str → Addr) : Sp := fun vs H Q E => ∃ (d : Nat) (a : Addr) (xs : List V), vs = [.int d, .ref a] ∧ H a = some (.lst xs) ∧ Bad K er d xs H E
/-- an error of the class n with v in its field, whatever the place -/
def Refd (K : PySem.W.Frag) (er : Str → Addr) (d : Nat) (xs : List V) (H : Hp) (n : Str) (v : V) : Prop := ∀ (H' : Hp) (E : XK), Same H H' → Rf er n v H' E → Bad K er d xs H' E
/-- the six classes of companies and deeds, each with the law's word for it -/
def sixW : List (Str × Str) := [("InvalidCompany", "company"), ("InvalidCouple", "couple"), ("InvalidDeed", "deed"), ("InvalidLot", "lot"), ("InvalidNumber", "number"), ("Unlike", "unlike")]
def sixN : List Str := ["InvalidCompany", "InvalidCouple", "InvalidDeed", "InvalidLot", "InvalidNumber", "Unlike"]
theorem sixN_of {c : Str × Str} (h : c ∈ sixW) : c.1 ∈ sixN := by
  have e : sixN = sixW.map (·.1) := rfl
  rw [e]
  exact List.mem_map_of_mem h
def spRefused (K : PySem.W.Frag) (er : Str → Addr) : Sp := fun vs H Q _ => ∃ (d : Nat) (a : Addr) (xs : List V) (ds : List PyData) (c : Str × Str) (v : V) (dv : PyData), vs = [.int d, .ref a, .str c.2, v] ∧
  H a = some (.lst xs) ∧ Dts K H xs ds ∧ ShowOk (.list ds) ∧ Dt K H v dv ∧ ShowOk dv ∧ c ∈ sixW ∧ Refd K er d xs H c.1 v ∧ ∀ H', Same H H' → Q (.bl true) H'
end GL

namespace K05
open PySem PySem.Spec PyProof.Rows
open L2
open GL
set_option maxHeartbeats 400000
section
variable {P : Program} {w : World} {K : PySem.W.Frag} {mg : Str → Option Value} {base : Heap}
variable {er : Str → Addr}
abbrev sCalled : Stmt := topS 61
abbrev nCalled : List Str := ["_law_door", "_law_args"]
theorem scCalled : FnScope nCalled ["_law_door", "_law_args"] (defScope sCalled) := ⟨rfl, rfl, rfl, by decide +kernel, rfl, by decide +kernel, by decide +kernel⟩
theorem ok_called {f : Addr} {fd : FuncData} (F : Fun K "_law_called" "_law_called" sCalled f fd) (T : Bi mg) (Uiscompany : UseX P w K mg base "is_company" ["kinds", "value"] (spOne K er) 7) (Utie : UseX P w K mg base "tie" ["kinds", "company", "couple"] (spTieX K er) 7) (Ustandalike : UseX P w K mg base "stand_alike" ["kinds", "company", "couple"] (spStandX K er) 7) (Ualikecouples : UseX P w K mg base "alike_couples" ["kinds", "company"] (spAlikeX K er) 7) (Uamong : UseX P w K mg base "among" ["kinds", "company", "lot"] (spAmongX K er) 7) (Urenamed : UseX P w K mg base "renamed" ["kinds", "company", "order"] (spRenamedX K er) 7) (Udiffering : UseX P w K mg base "differing" ["kinds", "one", "other"] (spDifferX K er) 7) (Uisdeed : UseX P w K mg base "is_deed" ["kinds", "company", "value"] (spHeadX K er) 7) (Udeeds : UseX P w K mg base "deeds" ["kinds", "company"] (spDeedsX K er) 7) (Udone : UseX P w K mg base "done" ["kinds", "company", "deed"] (spDoneX K er) 7) (Uled : UseX P w K mg base "led" ["kinds", "company", "road"] (spLedX K er) 7) (Uisroad : UseX P w K mg base "is_road" ["kinds", "company", "value"] (spRoadX K er) 7) : FnOk P w K mg base (L2.CX P w) 8 f fd ["_law_door", "_law_args"] (spCalled K er) := by
  obtain ⟨gUalikecouples, nUalikecouples, hUalikecouples⟩ := Ualikecouples.held
  obtain ⟨gUamong, nUamong, hUamong⟩ := Uamong.held
  obtain ⟨gUdeeds, nUdeeds, hUdeeds⟩ := Udeeds.held
  obtain ⟨gUdiffering, nUdiffering, hUdiffering⟩ := Udiffering.held
  obtain ⟨gUdone, nUdone, hUdone⟩ := Udone.held
  obtain ⟨gUiscompany, nUiscompany, hUiscompany⟩ := Uiscompany.held
  obtain ⟨gUisdeed, nUisdeed, hUisdeed⟩ := Uisdeed.held
  obtain ⟨gUisroad, nUisroad, hUisroad⟩ := Uisroad.held
  obtain ⟨gUled, nUled, hUled⟩ := Uled.held
  obtain ⟨gUrenamed, nUrenamed, hUrenamed⟩ := Urenamed.held
  obtain ⟨gUstandalike, nUstandalike, hUstandalike⟩ := Ustandalike.held
  obtain ⟨gUtie, nUtie, hUtie⟩ := Utie.held
  refine F.okX scCalled (fun vs H Q E h => ?_) (fun cdv A outer s H vs Q E hr h => ?_)
  · obtain ⟨d, a, xs, rfl, _⟩ := h
    rfl
  · obtain ⟨d, a, xs, rfl, ha, hb⟩ := h
    refine ⟨_, (pss_cons (ps_if (pt_cmpR op_eq (pe_callB call_len_seq (by rfl) T.len PySem.boot_len (pa_cons (pv 1) pa_nil)) pe_int (nomark _))
        (pss_one (ps_ret (pe_callV hr (takes_of rfl rfl rfl rfl) (pe_ix ix_list (pe_lst (pa_cons (pe_glob (v := .ref gUiscompany) rfl nUiscompany rfl) (pa_cons (pe_glob (v := .ref gUalikecouples) rfl nUalikecouples rfl) (pa_cons (pe_glob (v := .ref gUdeeds) rfl nUdeeds rfl) pa_nil)))) (pv 0) (fun _ _ => rfl)) (pa_cons (pe_ix ix_list (pv 1) pe_int (fun _ _ => rfl)) (pa_cons (pe_ix ix_list (pv 1) pe_int (fun _ _ => rfl)) pa_nil))))) pss_nil)
      (pss_cons (ps_if (pt_cmpR op_lt (pv 0) pe_int (nomark _))
        (pss_one (ps_ret (pe_callV hr (takes_of rfl rfl rfl rfl) (pe_ix ix_list (pe_lst (pa_cons (pe_glob (v := .ref gUtie) rfl nUtie rfl) (pa_cons (pe_glob (v := .ref gUstandalike) rfl nUstandalike rfl) (pa_cons (pe_glob (v := .ref gUamong) rfl nUamong rfl) (pa_cons (pe_glob (v := .ref gUrenamed) rfl nUrenamed rfl) (pa_cons (pe_glob (v := .ref gUdiffering) rfl nUdiffering rfl) (pa_cons (pe_glob (v := .ref gUisdeed) rfl nUisdeed rfl) pa_nil))))))) (pv 0) (fun _ _ => rfl)) (pa_cons (pe_ix ix_list (pv 1) pe_int (fun _ _ => rfl)) (pa_cons (pe_ix ix_list (pv 1) pe_int (fun _ _ => rfl)) (pa_cons (pe_ix ix_list (pv 1) pe_int (fun _ _ => rfl)) pa_nil)))))) pss_nil)
      (pss_one (ps_ret (pe_callV hr (takes_of rfl rfl rfl rfl) (pe_ix ix_list (pe_lst (pa_cons (pe_glob (v := .ref gUdone) rfl nUdone rfl) (pa_cons (pe_glob (v := .ref gUled) rfl nUled rfl) (pa_cons (pe_glob (v := .ref gUisroad) rfl nUisroad rfl) pa_nil)))) (pe_op op_sub (pv 0) pe_int) (fun _ _ => rfl)) (pa_cons (pe_ix ix_list (pv 1) pe_int (fun _ _ => rfl)) (pa_cons (pe_ix ix_list (pv 1) pe_int (fun _ _ => rfl)) (pa_cons (pe_ix ix_list (pv 1) pe_int (fun _ _ => rfl)) pa_nil)))))))), ?_⟩
    rcases hb with ⟨dl, ⟨x, y, rfl⟩, h⟩ | ⟨dl, ⟨x, y, z, rfl⟩, h⟩
    · refine ⟨_, rfl, a, _, rfl, .inl (SqL.of ha), rfl, _, rfl, iteT ?_⟩
      obtain rfl | rfl | rfl : d = 0 ∨ d = 1 ∨ d = 2 := by omega
      ·
        replace h : spOne K er [x, y] H (fun _ _ => False) E := h
        refine ⟨(by show 3 ≤ sizeLine; decide), fun l hl => ?_⟩
        obtain ⟨H1, e1, s1, f1⟩ := gen H hl (.lst [.ref gUiscompany, .ref gUalikecouples, .ref gUdeeds])
        rw [e1]
        clear e1
        have h1 := s1 _ _ ha
        refine ⟨_, rfl, l, _, _, .ref gUiscompany, rfl, rfl, SqL.of f1, at_of (j := 0) rfl rfl, gUiscompany, _, rfl, hUiscompany, ?_⟩
        exact ⟨_, rfl, a, _, _, x, rfl, rfl, SqL.of h1, at_of (j := 0) rfl rfl, _, rfl, a, _, _, y, rfl, rfl, SqL.of h1, at_of (j := 1) rfl rfl, later_one _ _ _ (fun _ _ => False) (fun _ _ => False) _ s1 h⟩
      ·
        replace h : spTwo K er [x, y] H (fun _ _ => False) E := h
        refine ⟨(by show 3 ≤ sizeLine; decide), fun l hl => ?_⟩
        obtain ⟨H1, e1, s1, f1⟩ := gen H hl (.lst [.ref gUiscompany, .ref gUalikecouples, .ref gUdeeds])
        rw [e1]
        clear e1
        have h1 := s1 _ _ ha
        refine ⟨_, rfl, l, _, _, .ref gUalikecouples, rfl, rfl, SqL.of f1, at_of (j := 1) rfl rfl, gUalikecouples, _, rfl, hUalikecouples, ?_⟩
        exact ⟨_, rfl, a, _, _, x, rfl, rfl, SqL.of h1, at_of (j := 0) rfl rfl, _, rfl, a, _, _, y, rfl, rfl, SqL.of h1, at_of (j := 1) rfl rfl, later_two _ _ _ (fun _ _ => False) (fun _ _ => False) _ s1 h⟩
      ·
        replace h : spTwo K er [x, y] H (fun _ _ => False) E := h
        refine ⟨(by show 3 ≤ sizeLine; decide), fun l hl => ?_⟩
        obtain ⟨H1, e1, s1, f1⟩ := gen H hl (.lst [.ref gUiscompany, .ref gUalikecouples, .ref gUdeeds])
        rw [e1]
        clear e1
        have h1 := s1 _ _ ha
        refine ⟨_, rfl, l, _, _, .ref gUdeeds, rfl, rfl, SqL.of f1, at_of (j := 2) rfl rfl, gUdeeds, _, rfl, hUdeeds, ?_⟩
        exact ⟨_, rfl, a, _, _, x, rfl, rfl, SqL.of h1, at_of (j := 0) rfl rfl, _, rfl, a, _, _, y, rfl, rfl, SqL.of h1, at_of (j := 1) rfl rfl, later_two _ _ _ (fun _ _ => False) (fun _ _ => False) _ s1 h⟩
    · refine ⟨_, rfl, a, _, rfl, .inl (SqL.of ha), rfl, _, rfl, iteF ?_⟩
      obtain rfl | rfl | rfl | rfl | rfl | rfl | rfl | rfl | rfl : d = 0 ∨ d = 1 ∨ d = 2 ∨ d = 3 ∨ d = 4 ∨ d = 5 ∨ d = 6 ∨ d = 7 ∨ d = 8 := by omega
      ·
        refine ⟨_, rfl, _, _, rfl, rfl, _, rfl, iteT ?_⟩
        replace h : spTieX K er [x, y, z] H (fun _ _ => False) E := h
        refine ⟨(by show 6 ≤ sizeLine; decide), fun l hl => ?_⟩
        obtain ⟨H1, e1, s1, f1⟩ := gen H hl (.lst [.ref gUtie, .ref gUstandalike, .ref gUamong, .ref gUrenamed, .ref gUdiffering, .ref gUisdeed])
        rw [e1]
        clear e1
        have h1 := s1 _ _ ha
        refine ⟨_, rfl, l, _, _, .ref gUtie, rfl, rfl, SqL.of f1, at_of (j := 0) rfl rfl, gUtie, _, rfl, hUtie, ?_⟩
        exact ⟨_, rfl, a, _, _, x, rfl, rfl, SqL.of h1, at_of (j := 0) rfl rfl, _, rfl, a, _, _, y, rfl, rfl, SqL.of h1, at_of (j := 1) rfl rfl, _, rfl, a, _, _, z, rfl, rfl, SqL.of h1, at_of (j := 2) rfl rfl, later_three _ _ _ (fun _ _ => False) (fun _ _ => False) _ s1 h⟩
      ·
        refine ⟨_, rfl, _, _, rfl, rfl, _, rfl, iteT ?_⟩
        replace h : spTieX K er [x, y, z] H (fun _ _ => False) E := h
        refine ⟨(by show 6 ≤ sizeLine; decide), fun l hl => ?_⟩
        obtain ⟨H1, e1, s1, f1⟩ := gen H hl (.lst [.ref gUtie, .ref gUstandalike, .ref gUamong, .ref gUrenamed, .ref gUdiffering, .ref gUisdeed])
        rw [e1]
        clear e1
        have h1 := s1 _ _ ha
        refine ⟨_, rfl, l, _, _, .ref gUstandalike, rfl, rfl, SqL.of f1, at_of (j := 1) rfl rfl, gUstandalike, _, rfl, hUstandalike, ?_⟩
        exact ⟨_, rfl, a, _, _, x, rfl, rfl, SqL.of h1, at_of (j := 0) rfl rfl, _, rfl, a, _, _, y, rfl, rfl, SqL.of h1, at_of (j := 1) rfl rfl, _, rfl, a, _, _, z, rfl, rfl, SqL.of h1, at_of (j := 2) rfl rfl, later_three _ _ _ (fun _ _ => False) (fun _ _ => False) _ s1 h⟩
      ·
        refine ⟨_, rfl, _, _, rfl, rfl, _, rfl, iteT ?_⟩
        replace h : spAmongX K er [x, y, z] H (fun _ _ => False) E := h
        refine ⟨(by show 6 ≤ sizeLine; decide), fun l hl => ?_⟩
        obtain ⟨H1, e1, s1, f1⟩ := gen H hl (.lst [.ref gUtie, .ref gUstandalike, .ref gUamong, .ref gUrenamed, .ref gUdiffering, .ref gUisdeed])
        rw [e1]
        clear e1
        have h1 := s1 _ _ ha
        refine ⟨_, rfl, l, _, _, .ref gUamong, rfl, rfl, SqL.of f1, at_of (j := 2) rfl rfl, gUamong, _, rfl, hUamong, ?_⟩
        exact ⟨_, rfl, a, _, _, x, rfl, rfl, SqL.of h1, at_of (j := 0) rfl rfl, _, rfl, a, _, _, y, rfl, rfl, SqL.of h1, at_of (j := 1) rfl rfl, _, rfl, a, _, _, z, rfl, rfl, SqL.of h1, at_of (j := 2) rfl rfl, later_three _ _ _ (fun _ _ => False) (fun _ _ => False) _ s1 h⟩
      ·
        refine ⟨_, rfl, _, _, rfl, rfl, _, rfl, iteT ?_⟩
        replace h : spRenamedX K er [x, y, z] H (fun _ _ => False) E := h
        refine ⟨(by show 6 ≤ sizeLine; decide), fun l hl => ?_⟩
        obtain ⟨H1, e1, s1, f1⟩ := gen H hl (.lst [.ref gUtie, .ref gUstandalike, .ref gUamong, .ref gUrenamed, .ref gUdiffering, .ref gUisdeed])
        rw [e1]
        clear e1
        have h1 := s1 _ _ ha
        refine ⟨_, rfl, l, _, _, .ref gUrenamed, rfl, rfl, SqL.of f1, at_of (j := 3) rfl rfl, gUrenamed, _, rfl, hUrenamed, ?_⟩
        exact ⟨_, rfl, a, _, _, x, rfl, rfl, SqL.of h1, at_of (j := 0) rfl rfl, _, rfl, a, _, _, y, rfl, rfl, SqL.of h1, at_of (j := 1) rfl rfl, _, rfl, a, _, _, z, rfl, rfl, SqL.of h1, at_of (j := 2) rfl rfl, later_three _ _ _ (fun _ _ => False) (fun _ _ => False) _ s1 h⟩
      ·
        refine ⟨_, rfl, _, _, rfl, rfl, _, rfl, iteT ?_⟩
        replace h : spDifferX K er [x, y, z] H (fun _ _ => False) E := h
        refine ⟨(by show 6 ≤ sizeLine; decide), fun l hl => ?_⟩
        obtain ⟨H1, e1, s1, f1⟩ := gen H hl (.lst [.ref gUtie, .ref gUstandalike, .ref gUamong, .ref gUrenamed, .ref gUdiffering, .ref gUisdeed])
        rw [e1]
        clear e1
        have h1 := s1 _ _ ha
        refine ⟨_, rfl, l, _, _, .ref gUdiffering, rfl, rfl, SqL.of f1, at_of (j := 4) rfl rfl, gUdiffering, _, rfl, hUdiffering, ?_⟩
        exact ⟨_, rfl, a, _, _, x, rfl, rfl, SqL.of h1, at_of (j := 0) rfl rfl, _, rfl, a, _, _, y, rfl, rfl, SqL.of h1, at_of (j := 1) rfl rfl, _, rfl, a, _, _, z, rfl, rfl, SqL.of h1, at_of (j := 2) rfl rfl, later_differ _ _ _ (fun _ _ => False) (fun _ _ => False) _ s1 h⟩
      ·
        refine ⟨_, rfl, _, _, rfl, rfl, _, rfl, iteT ?_⟩
        replace h : spHeadX K er [x, y, z] H (fun _ _ => False) E := h
        refine ⟨(by show 6 ≤ sizeLine; decide), fun l hl => ?_⟩
        obtain ⟨H1, e1, s1, f1⟩ := gen H hl (.lst [.ref gUtie, .ref gUstandalike, .ref gUamong, .ref gUrenamed, .ref gUdiffering, .ref gUisdeed])
        rw [e1]
        clear e1
        have h1 := s1 _ _ ha
        refine ⟨_, rfl, l, _, _, .ref gUisdeed, rfl, rfl, SqL.of f1, at_of (j := 5) rfl rfl, gUisdeed, _, rfl, hUisdeed, ?_⟩
        exact ⟨_, rfl, a, _, _, x, rfl, rfl, SqL.of h1, at_of (j := 0) rfl rfl, _, rfl, a, _, _, y, rfl, rfl, SqL.of h1, at_of (j := 1) rfl rfl, _, rfl, a, _, _, z, rfl, rfl, SqL.of h1, at_of (j := 2) rfl rfl, later_three _ _ _ (fun _ _ => False) (fun _ _ => False) _ s1 h⟩
      ·
        refine ⟨_, rfl, _, _, rfl, rfl, _, rfl, iteF ?_⟩
        replace h : spDoneX K er [x, y, z] H (fun _ _ => False) E := h
        refine ⟨(by show 3 ≤ sizeLine; decide), fun l hl => ?_⟩
        obtain ⟨H1, e1, s1, f1⟩ := gen H hl (.lst [.ref gUdone, .ref gUled, .ref gUisroad])
        rw [e1]
        clear e1
        have h1 := s1 _ _ ha
        refine ⟨_, rfl, _, _, rfl, rfl, l, _, _, .ref gUdone, rfl, rfl, SqL.of f1, at_of (j := 0) rfl rfl, gUdone, _, rfl, hUdone, ?_⟩
        exact ⟨_, rfl, a, _, _, x, rfl, rfl, SqL.of h1, at_of (j := 0) rfl rfl, _, rfl, a, _, _, y, rfl, rfl, SqL.of h1, at_of (j := 1) rfl rfl, _, rfl, a, _, _, z, rfl, rfl, SqL.of h1, at_of (j := 2) rfl rfl, later_three _ _ _ (fun _ _ => False) (fun _ _ => False) _ s1 h⟩
      ·
        refine ⟨_, rfl, _, _, rfl, rfl, _, rfl, iteF ?_⟩
        replace h : spLedX K er [x, y, z] H (fun _ _ => False) E := h
        refine ⟨(by show 3 ≤ sizeLine; decide), fun l hl => ?_⟩
        obtain ⟨H1, e1, s1, f1⟩ := gen H hl (.lst [.ref gUdone, .ref gUled, .ref gUisroad])
        rw [e1]
        clear e1
        have h1 := s1 _ _ ha
        refine ⟨_, rfl, _, _, rfl, rfl, l, _, _, .ref gUled, rfl, rfl, SqL.of f1, at_of (j := 1) rfl rfl, gUled, _, rfl, hUled, ?_⟩
        exact ⟨_, rfl, a, _, _, x, rfl, rfl, SqL.of h1, at_of (j := 0) rfl rfl, _, rfl, a, _, _, y, rfl, rfl, SqL.of h1, at_of (j := 1) rfl rfl, _, rfl, a, _, _, z, rfl, rfl, SqL.of h1, at_of (j := 2) rfl rfl, later_led _ _ _ (fun _ _ => False) (fun _ _ => False) _ s1 h⟩
      ·
        refine ⟨_, rfl, _, _, rfl, rfl, _, rfl, iteF ?_⟩
        replace h : spHeadX K er [x, y, z] H (fun _ _ => False) E := h
        refine ⟨(by show 3 ≤ sizeLine; decide), fun l hl => ?_⟩
        obtain ⟨H1, e1, s1, f1⟩ := gen H hl (.lst [.ref gUdone, .ref gUled, .ref gUisroad])
        rw [e1]
        clear e1
        have h1 := s1 _ _ ha
        refine ⟨_, rfl, _, _, rfl, rfl, l, _, _, .ref gUisroad, rfl, rfl, SqL.of f1, at_of (j := 2) rfl rfl, gUisroad, _, rfl, hUisroad, ?_⟩
        exact ⟨_, rfl, a, _, _, x, rfl, rfl, SqL.of h1, at_of (j := 0) rfl rfl, _, rfl, a, _, _, y, rfl, rfl, SqL.of h1, at_of (j := 1) rfl rfl, _, rfl, a, _, _, z, rfl, rfl, SqL.of h1, at_of (j := 2) rfl rfl, later_three _ _ _ (fun _ _ => False) (fun _ _ => False) _ s1 h⟩
end
end K05

namespace K05
open PySem PySem.Spec PyProof.Rows
open L2
open GL
/-- the law's words of the classes up to i that are c's -/
def wordsTo (c : Str × Str) (i : Nat) : List Str := ((sixW.take i).filter fun z => decide (c.1 = z.1)).map (·.2)
theorem words_all : ∀ c ∈ sixW, wordsTo c 6 = [c.2] := by decide
theorem words_more (c : Str × Str) {i : Nat} {z : Str × Str} (e : sixW[i]? = some z) : wordsTo c (i + 1) = wordsTo c i ++ (if decide (c.1 = z.1) = true then [z.2] else []) := by
  unfold wordsTo
  rw [List.take_add_one, e, List.filter_append, List.map_append]
  cases h : decide (c.1 = z.1) with
  | true => simp [h]
  | false => simp [h]
theorem words_len (c : Str × Str) (i : Nat) : (wordsTo c i).length ≤ 6 := by
  unfold wordsTo
  rw [List.length_map]
  exact Nat.le_trans (List.length_filter_le _ _) (Nat.le_trans (List.length_take_le' i sixW) (Nat.le_refl 6))
theorem shaped_one : ∀ c ∈ sixW, SeqAt.shaped (.list [.str c.2]) = true := by decide +kernel
theorem eqv_one (s : Str) : PyData.eqv (.list [.str s]) (.list [.str s]) = true := by
  simp [PyData.eqv, PyData.eqvAll]
section
variable {P : Program} {w : World} {K : PySem.W.Frag} {mg : Str → Option Value} {base : Heap}
variable {er : Str → Addr}
abbrev sRefused : Stmt := topS 62
abbrev nRefused : List Str := ["_law_door", "_law_args", "_law_name", "_law_field", "_law_words", "_law_caught", "_law_kept", "error", "_law_kinds", "_law_word", "_law_kind"]
theorem scRefused : FnScope nRefused ["_law_door", "_law_args", "_law_name", "_law_field"] (defScope sRefused) := ⟨rfl, rfl, rfl, by decide +kernel, rfl, by decide +kernel, by decide +kernel⟩
theorem ok_refused {f : Addr} {fd : FuncData} (F : Fun K "_law_refused" "_law_refused" sRefused f fd) (T : Bi mg) (ER : Errs sixN K mg er) (ULcalled : UseX P w K mg base "_law_called" ["_law_door", "_law_args"] (spCalled K er) 8) : FnG P w K mg base CX0 9 f fd ["_law_door", "_law_args", "_law_name", "_law_field"] (spRefused K er) := by
  refine FnG.mk' F scRefused (fun vs H Q E h => ?_) (fun cdv A outer s H vs Q E hgd hr h => ?_)
  · obtain ⟨d, a, xs, ds, c, v, dv, rfl, _⟩ := h
    rfl
  · obtain ⟨d, a, xs, ds, c, v, dv, rfl, ha, hx, so, dv0, sv, cm, rf, q⟩ := h
    have hgd' : (A.deeper (envOfC "_law_refused" (defScope sRefused) s.heap.objs.size f cdv)).guards = some [] := hgd
    refine ⟨_, (pss_cons (ps_par3 (i := 4) (j := 5) (l := 6) rfl scRefused.nd rfl rfl rfl (by decide) (by decide) (by decide) rfl rfl rfl (pa_cons (pe_lst pa_nil) (pa_cons pe_non (pa_cons (pe_callB (call_repD hgd' hr.units) (by rfl) T.repr (by decide +kernel) (pa_cons (pv 1) pa_nil)) pa_nil))) (by rfl))
      (pss_cons (ps_try_keep (i := 7) rfl rfl scRefused.nd rfl rfl ⟨rfl, by decide, .inl ER.tie⟩ rfl takes0
        (fun W pn xe tk _ => (pss_one (ps_expr (pe_useS ULcalled hr tk (by rfl) (pa_cons (pv 0) (pa_cons (pv 1) pa_nil))))))
        (fun a oe cls d pn _ _ => (pss_one (ps_set (i := 5) scRefused.nd rfl (Or.inl rfl) (pv 7)))))
      (pss_cons (ps_if (PW.pt (pw_or (pt_cmpR op_isN (pv 5) pe_non (nomark _)) (pw_or (pt_cmpR op_ne (pv 6) (pe_callB (call_repD hgd' hr.units) (by rfl) T.repr (by decide +kernel) (pa_cons (pv 1) pa_nil)) (nomark _)) (pw_or1 (pt_not (pt_val (pe_callB call_isX (by rfl) T.isinstance (by decide +kernel) (pa_cons (pv 5) (pa_cons (pe_bltn (v := .ty "ValueError") (by rfl) ER.vN (by decide +kernel) rfl) pa_nil)))))))))
        (pss_one (ps_ret pe_bl)) pss_nil)
      (pss_cons (ps_set (i := 8) scRefused.nd rfl (Or.inl rfl) (pe_lst (pa_cons (pe_callB call_isX (by rfl) T.isinstance (by decide +kernel) (pa_cons (pv 5) (pa_cons (pe_glob (v := .ref (er "InvalidCompany")) rfl (ER.mg (by decide)) rfl) pa_nil))) (pa_cons (pe_callB call_isX (by rfl) T.isinstance (by decide +kernel) (pa_cons (pv 5) (pa_cons (pe_glob (v := .ref (er "InvalidCouple")) rfl (ER.mg (by decide)) rfl) pa_nil))) (pa_cons (pe_callB call_isX (by rfl) T.isinstance (by decide +kernel) (pa_cons (pv 5) (pa_cons (pe_glob (v := .ref (er "InvalidDeed")) rfl (ER.mg (by decide)) rfl) pa_nil))) pa_nil)))))
      (pss_cons (ps_set (i := 8) scRefused.nd rfl (Or.inl rfl) (pe_op op_cat (pv 8) (pe_lst (pa_cons (pe_callB call_isX (by rfl) T.isinstance (by decide +kernel) (pa_cons (pv 5) (pa_cons (pe_glob (v := .ref (er "InvalidLot")) rfl (ER.mg (by decide)) rfl) pa_nil))) (pa_cons (pe_callB call_isX (by rfl) T.isinstance (by decide +kernel) (pa_cons (pv 5) (pa_cons (pe_glob (v := .ref (er "InvalidNumber")) rfl (ER.mg (by decide)) rfl) pa_nil))) (pa_cons (pe_callB call_isX (by rfl) T.isinstance (by decide +kernel) (pa_cons (pv 5) (pa_cons (pe_glob (v := .ref (er "Unlike")) rfl (ER.mg (by decide)) rfl) pa_nil))) pa_nil))))))
      (pss_cons (ps_for PassesOwn.never rfl (pi_zip (by rfl) T.zip (pa_cons (pe_lst (pa_cons pe_str (pa_cons pe_str (pa_cons pe_str (pa_cons pe_str (pa_cons pe_str (pa_cons pe_str pa_nil))))))) (pa_cons (pv 8) pa_nil))) (pg_tup rfl (pgs_cons (pg_name (i := 9) scRefused.nd rfl (Or.inl rfl)) (pgs_cons (pg_name (i := 10) scRefused.nd rfl (Or.inl rfl)) pgs_nil)))
        (pss_one (ps_set (i := 4) scRefused.nd rfl (Or.inl rfl) (pe_op op_cat (pv 4) (pe_op op_rep (pe_lst (pa_cons (pv 9) pa_nil)) (pe_callTy call_int1 (by rfl) T.int PyProof.Rows.boot_int (pa_cons (pv 10) pa_nil)))))))
      (pss_one (ps_ret (pe_and (pe_cmpR (op_eqD hr.units) (pv 4) (pe_lst (pa_cons (pv 2) pa_nil)) (nomark _)) (pe_one (pe_cmpR op_eq (pe_callB (call_repD hgd' hr.units) (by rfl) T.repr (by decide +kernel) (pa_cons (pe_valX (pv 5)) pa_nil)) (pe_callB (call_repD hgd' hr.units) (by rfl) T.repr (by decide +kernel) (pa_cons (pv 3) pa_nil)) (nomark _)))))))))))), ?_⟩
    have c6 := sixN_of cm
    refine ⟨Nat.zero_le _, fun W hW => ?_⟩
    obtain ⟨H1, e1, s1, f1⟩ := gen H hW (.lst [])
    rw [e1]
    clear e1
    have hd1 : Dt K H1 (.ref a) (.list ds) := .lst (s1 _ _ ha) (Dts.same s1 _ _ hx)
    refine ⟨_, rfl, _, _, rfl, hd1, so.1, so.2.1, so.2.2, _, _, _, rfl, ?_⟩
    refine ⟨_, rfl, _, rfl, d, a, xs, rfl, s1 _ _ ha, rf H1 _ s1 ?_⟩
    intro H2 e s2 ne he
    refine ⟨true, ER.exm _ c6, (fun z => by cases z), fun _ x nx => ⟨_, rfl, fun nx2 => ?_⟩⟩
    obtain ⟨fI, EC⟩ := ER.own _ c6
    obtain ⟨H3, e3, s3, f3⟩ := gen H2 nx (Exn (.ref (er c.1)) (some e) x)
    show _
    rw [e3]
    clear e3
    have he3 := s3 _ _ he
    have s13 := s2.trans s3
    have s03 := s1.trans s13
    have hd3 : Dt K H3 (.ref a) (.list ds) := .lst (s03 _ _ ha) (Dts.same s03 _ _ hx)
    refine ⟨_, rfl, rfl, _, rfl, iteF ?_⟩
    refine ⟨_, rfl, _, rfl, _, _, rfl, hd3, so.1, so.2.1, so.2.2, rfl, _, rfl, ?_⟩
    refine ite2 (fun z => absurd z (by simp)) (fun _ => ?_)
    refine ⟨_, rfl, x, er c.1, fI, c.1, some e, _, .type "ValueError", true, rfl, f3, ⟨e, _, rfl, he3⟩, EC, (fun _ r => r), ER.val _ c6, _, rfl, iteF ?_⟩
    refine ⟨_, rfl, x, er c.1, fI, c.1, some e, _, .ref (er "InvalidCompany"), _, rfl, f3, ⟨e, _, rfl, he3⟩, EC, (fun _ r => r), ER.kit _ c6 "InvalidCompany" (by decide), _, rfl, x, er c.1, fI, c.1, some e, _, .ref (er "InvalidCouple"), _, rfl, f3, ⟨e, _, rfl, he3⟩, EC, (fun _ r => r), ER.kit _ c6 "InvalidCouple" (by decide), _, rfl, x, er c.1, fI, c.1, some e, _, .ref (er "InvalidDeed"), _, rfl, f3, ⟨e, _, rfl, he3⟩, EC, (fun _ r => r), ER.kit _ c6 "InvalidDeed" (by decide), (by show 3 ≤ sizeLine; decide), fun p1 hp1 => ?_⟩
    obtain ⟨H4, e4, s4, f4⟩ := gen H3 hp1 (.lst [.bl (decide (c.1 = "InvalidCompany")), .bl (decide (c.1 = "InvalidCouple")), .bl (decide (c.1 = "InvalidDeed"))])
    rw [e4]
    clear e4
    have f34 := s4 _ _ f3
    have he4 := s4 _ _ he3
    refine ⟨_, rfl, _, rfl, x, er c.1, fI, c.1, some e, _, .ref (er "InvalidLot"), _, rfl, f34, ⟨e, _, rfl, he4⟩, EC, (fun _ r => r), ER.kit _ c6 "InvalidLot" (by decide), _, rfl, x, er c.1, fI, c.1, some e, _, .ref (er "InvalidNumber"), _, rfl, f34, ⟨e, _, rfl, he4⟩, EC, (fun _ r => r), ER.kit _ c6 "InvalidNumber" (by decide), _, rfl, x, er c.1, fI, c.1, some e, _, .ref (er "Unlike"), _, rfl, f34, ⟨e, _, rfl, he4⟩, EC, (fun _ r => r), ER.kit _ c6 "Unlike" (by decide), (by show 3 ≤ sizeLine; decide), fun p2 hp2 => ?_⟩
    obtain ⟨H5, e5, s5, f5⟩ := gen H4 hp2 (.lst [.bl (decide (c.1 = "InvalidLot")), .bl (decide (c.1 = "InvalidNumber")), .bl (decide (c.1 = "Unlike"))])
    rw [e5]
    clear e5
    refine ⟨p1, p2, _, _, rfl, rfl, s5 _ _ f4, f5, (by show 6 ≤ sizeLine; decide), fun p3 hp3 => ?_⟩
    obtain ⟨H6, e6, s6, f6⟩ := gen H5 hp3 (.lst (sixW.map fun z => .bl (decide (c.1 = z.1))))
    have e7 : ([.bl (decide (c.1 = "InvalidCompany")), .bl (decide (c.1 = "InvalidCouple")), .bl (decide (c.1 = "InvalidDeed"))] ++ [.bl (decide (c.1 = "InvalidLot")), .bl (decide (c.1 = "InvalidNumber")), .bl (decide (c.1 = "Unlike"))] : List V) = sixW.map fun z => .bl (decide (c.1 = z.1)) := rfl
    rw [e7, e6]
    clear e6 e7
    refine ⟨(by show 6 ≤ sizeLine; decide), fun p4 hp4 => ?_⟩
    obtain ⟨H7, e7, s7, f7⟩ := gen H6 hp4 (.lst (sixW.map fun z => .str z.2))
    have e8 : ([.str "company", .str "couple", .str "deed", .str "lot", .str "number", .str "unlike"] : List V) = sixW.map fun z => .str z.2 := rfl
    rw [e8, e7]
    clear e7 e8
    have s37 := s4.trans (s5.trans (s6.trans s7))
    refine ⟨_, rfl, p4, p3, _, _, rfl, SqL.of f7, SqL.of (s7 _ _ f6), ?_⟩
    have f1' := (s13.trans s37) _ _ f1
    refine for_it (walk_zip (K := K) (a := p4) (b := p3) (xs := sixW.map fun z => V.str z.2) (ys := sixW.map fun z => V.bl (decide (c.1 = z.1))) (n := 6) rfl) (fun i σ H' => ∃ (u : Addr) (y z : Option V), σ = [some (.int (d : Nat)), some (.ref a), some (.str c.2), some v, some (.ref u), some (.ref x), some (.str (PyData.list ds).shown), none, some (.ref p3), y, z] ∧ Same H7 H' ∧ H' u = some (.lst ((wordsTo c i).map V.str)))
      ⟨W, _, _, rfl, Same.refl _, f1'⟩ (fun i σ H' _ z => by
        obtain ⟨_, _, _, _, s', _⟩ := z
        exact ⟨SqL.of (s' _ _ f7), SqL.of (s' _ _ (s7 _ _ f6))⟩) ?_ ?_
    · rintro i y σ H8 H9 hi ⟨u, y0, z0, rfl, s8, hu⟩ ⟨A2, x1, x2, rfl, nA, rfl, e1, e2⟩
      have e1' : (sixW.map fun z => V.str z.2)[i]? = some x1 := e1
      have e2' : (sixW.map fun z => V.bl (decide (c.1 = z.1)))[i]? = some x2 := e2
      rw [List.getElem?_map] at e1' e2'
      obtain ⟨z, ez⟩ : ∃ z, sixW[i]? = some z := ⟨_, List.getElem?_eq_getElem (show i < sixW.length from hi)⟩
      rw [ez] at e1' e2'
      cases e1'
      cases e2'
      obtain ⟨H9, e9, s9, f9⟩ := gen H8 nA (.tup [.str z.2, .bl (decide (c.1 = z.1))])
      rw [e9]
      clear e9
      refine ⟨A2, _, rfl, SqT.of f9, rfl, _, _, rfl, _, _, rfl, rfl, ?_⟩
      refine ⟨_, rfl, _, rfl, one_le, fun l hl => ?_⟩
      obtain ⟨H10, e10, s10, f10⟩ := gen H9 hl (.lst [.str z.2])
      rw [e10]
      clear e10
      have wm := words_more c ez
      have wl := words_len c (i + 1)
      refine ⟨_, rfl, .inr ⟨_, rfl, l, _, _, rfl, rfl, f10, ?_⟩⟩
      have hu10 := s10 _ _ (s9 _ _ hu)
      cases hb : decide (c.1 = z.1) with
      | true =>
        rw [hb, if_pos rfl] at wm
        refine ⟨(by decide), (by decide), (by show 1 ≤ sizeLine; decide), fun p hp => ?_⟩
        have e11 : (List.replicate ((1 : Int)).toNat [V.str z.2]).flatten = [V.str z.2] := rfl
        obtain ⟨H11, e12, s11, f11⟩ := gen H10 hp (.lst [.str z.2])
        show _
        rw [if_pos rfl, e11, e12]
        clear e12
        refine ⟨u, p, _, _, rfl, rfl, s11 _ _ hu10, f11, ?_, fun p5 hp5 => ?_⟩
        · rw [List.length_map, List.length_singleton]
          have := words_len c i
          rw [sizeLine_eq]
          omega
        · refine ⟨p5, _, _, rfl, ((s8.trans s9).trans (s10.trans s11)).trans (same_new hp5), ?_⟩
          rw [upd_same, wm, List.map_append]
          rfl
      | false =>
        rw [hb, if_neg (by decide), List.append_nil] at wm
        refine ⟨(by decide), (by decide), (by show 0 ≤ sizeLine; exact Nat.zero_le _), fun p hp => ?_⟩
        have e11 : (List.replicate ((0 : Int)).toNat [V.str z.2]).flatten = [] := rfl
        obtain ⟨H11, e12, s11, f11⟩ := gen H10 hp (.lst [])
        show _
        rw [if_neg (by decide), e11, e12]
        clear e12
        refine ⟨u, p, _, _, rfl, rfl, s11 _ _ hu10, f11, ?_, fun p5 hp5 => ?_⟩
        · rw [List.length_map, List.length_nil]
          have := words_len c i
          rw [sizeLine_eq]
          omega
        · refine ⟨p5, _, _, rfl, ((s8.trans s9).trans (s10.trans s11)).trans (same_new hp5), ?_⟩
          rw [upd_same, wm, List.append_nil]
    · rintro σ H8 ⟨u, y0, z0, rfl, s8, hu⟩
      have s38 := s37.trans s8
      have hw := words_all c cm
      rw [hw] at hu
      refine ⟨_, rfl, _, rfl, one_le, fun l hl => ?_⟩
      obtain ⟨H9, e9, s9, f9⟩ := gen H8 hl (.lst [.str c.2])
      rw [e9]
      clear e9
      have s39 := s38.trans s9
      refine ⟨.list [.str c.2], .list [.str c.2], .lst (SqL.of (s9 _ _ hu)) (.cons (.str _) .nil), .lst (SqL.of f9) (.cons (.str _) .nil), ?_, ?_, ?_⟩
      · exact shaped_one c cm
      · exact shaped_one c cm
      rw [eqv_one]
      refine ⟨_, rfl, iteT ?_⟩
      refine ⟨_, rfl, x, er c.1, fI, e, c.1, v, rfl, EC, s39 _ _ f3, s39 _ _ he3, v, dv, rfl, Dt.same (s03.trans s39) _ _ dv0, sv.1, sv.2.1, sv.2.2, ?_⟩
      refine ⟨_, rfl, v, dv, rfl, Dt.same (s03.trans s39) _ _ dv0, sv.1, sv.2.1, sv.2.2, rfl, ?_⟩
      rw [decide_eq_true rfl]
      exact q _ (s03.trans s39)
end
end K05

namespace GL
open PySem PySem.Spec PyProof.Rows L2
theorem Refd.later {K : PySem.W.Frag} {er : Str → Addr} {d : Nat} {xs : List V} {H H' : Hp} {n : Str} {v : V} (s : Same H H') (r : Refd K er d xs H n v) : Refd K er d xs H' n v := fun H2 E s2 h => r H2 E (s.trans s2) h
section
variable {K : PySem.W.Frag} {er : Str → Addr}
/-- one call that is refused -/
theorem ref_call {td tb : TE} {ta : TA} {σ : L2.St} {H : Hp} {Q : VK} {d : Nat} {v : V} {dv : PyData} (c : Str × Str) (R : Hp → List V → List PyData → Prop) (hd : ∀ H' (Q' : VK), Q' (.int (d : Nat)) H' → td σ H' Q') (hb : ∀ H' (Q' : VK), Q' v H' → tb σ H' Q')
    (ha : ∀ Q' : List V → Hp → Prop, (∀ H' vs ds, Same H H' → R H' vs ds → Q' vs H') → ta σ H Q') (hr : ∀ H' vs ds, Same H H' → R H' vs ds → vs.length ≤ 10 ∧ Dts K H' vs ds ∧ ShowOk (.list ds) ∧ Refd K er d vs H' c.1 v)
    (dt : Dt K H v dv) (sv : ShowOk dv) (cm : c ∈ sixW) (q : ∀ H', Same H H' → Q (.bl true) H') :
    tCall (spRefused K er) [] E0 (tCons td (tCons (tLst ta) (tCons (tC (.str c.2)) (tCons tb tNil)))) σ H Q := by
  refine hd _ _ (ha _ fun H1 vs ds s1 r => ?_)
  obtain ⟨l10, dts, so, rf⟩ := hr H1 vs ds s1 r
  refine ⟨Nat.le_of_lt (small1000 (by omega)), fun p hp => ?_⟩
  obtain ⟨H2, e2, s2, f2⟩ := gen H1 hp (.lst vs)
  rw [e2]
  refine hb _ _ ?_
  exact ⟨d, p, vs, ds, c, v, dv, rfl, f2, Dts.same s2 _ _ dts, so, Dt.same (s1.trans s2) _ _ dt, sv, cm, rf.later s2, fun H3 s3 => q H3 ((s1.trans s2).trans s3)⟩
/-- a list of n times True -/
def Due (H : Hp) (f : Addr) (n : Nat) : Prop := H f = some (.lst (List.replicate n (.bl true)))
theorem due_cat (n m : Nat) : List.replicate n (V.bl true) ++ (List.range m).map (fun _ => V.bl true) = List.replicate (n + m) (V.bl true) := by
  rw [List.map_const', List.length_range, List.replicate_append_replicate]
/-- [refused(i, [..], word, v) for i in range(n)] -/
theorem ref_rng {tb : TE} {ta : TA} {σ : L2.St} {H : Hp} {Q : VK} {n : Nat} {k : Nat} {v : V} {dv : PyData} (c : Str × Str) (R : Nat → Hp → List V → List PyData → Prop) (n9 : n ≤ 9)
    (hk : ∀ j : Nat, wipe ((wipe σ [k]).set k (some (.int (j : Nat)))) [k] = wipe σ [k] ∧ ((wipe σ [k]).set k (some (.int (j : Nat))))[k]? = some (some (.int (j : Nat))))
    (hb : ∀ (j : Nat) H' (Q' : VK), Q' v H' → tb ((wipe σ [k]).set k (some (.int (j : Nat)))) H' Q')
    (ha : ∀ (j : Nat) (H2 : Hp) (Q' : List V → Hp → Prop), j < n → Same H H2 → (∀ H' vs ds, Same H2 H' → R j H' vs ds → Q' vs H') → ta ((wipe σ [k]).set k (some (.int (j : Nat)))) H2 Q')
    (hr : ∀ (j : Nat) H' vs ds, j < n → Same H H' → R j H' vs ds → vs.length ≤ 10 ∧ Dts K H' vs ds ∧ ShowOk (.list ds) ∧ Refd K er j vs H' c.1 v)
    (dt : Dt K H v dv) (sv : ShowOk dv) (cm : c ∈ sixW) (q : ∀ p H', Same H H' → H p = none → H' p = some (.lst ((List.range n).map fun _ => V.bl true)) → Q (.ref p) H') :
    tLc (iRng1 (tCons (tC (.int (n : Nat))) tNil)) (gName k) tYes (tCall (spRefused K er) [] E0 (tCons (tVar k) (tCons (tLst ta) (tCons (tC (.str c.2)) (tCons tb tNil))))) [k] σ H Q := by
  refine ⟨_, rfl, by omega, by omega, fun D hD => ?_⟩
  refine lc_vals (walk_nat (n := n)) (fun _ => V.bl true) hD (Nat.le_of_lt (small1000 (by omega))) (fun _ _ => trivial) ?_ ?_
  · rintro j x H2 H3 N hj s2 ⟨rfl, rfl⟩ hN
    refine gName_by ⟨(hk j).1, ?_⟩
    exact ref_call (d := j) (v := v) (dv := dv) c (R j) (fun H' Q' h => ⟨_, (hk j).2, h⟩) (hb j) (fun Q' h => ha j _ Q' hj s2 h) (fun H' vs ds s' r => hr j H' vs ds hj (s2.trans s') r) (Dt.same s2 _ _ dt) sv cm fun H' s' => hN H' s'
  · exact fun H' s' h' => q D H' s' hD h'
end
/-- n rows of the kind 0 -/
def rows0 (n : Nat) : PyData := .list ((List.range n).map fun i => .list (List.replicate i (.int 0)))
theorem dts_rep {K : PySem.W.Frag} {H : Hp} : ∀ i : Nat, Dts K H (List.replicate i (.int 0)) (List.replicate i (.int 0))
  | 0 => .nil
  | i + 1 => .cons (.int 0) (dts_rep i)
theorem rep_self {α : Type} : ∀ (j : Nat) (x : α), (List.replicate j [x]).flatten = List.replicate j x
  | 0, _ => rfl
  | j + 1, x => by
    rw [List.replicate_succ, List.replicate_succ, List.flatten_cons, rep_self j x]
    rfl
theorem dts_get {K : PySem.W.Frag} {H : Hp} : ∀ {vs : List V} {ds : List PyData}, vs.length = ds.length → (∀ (i : Nat) (v : V) (d : PyData), vs[i]? = some v → ds[i]? = some d → Dt K H v d) → Dts K H vs ds
  | [], [], _, _ => .nil
  | v :: vs, d :: ds, l, h => .cons (h 0 v d rfl rfl) (dts_get (by simpa using l) fun i v d a b => h (i + 1) v d a b)
theorem rows0_w {K : PySem.W.Frag} {k : Nat} (σ : L2.St) (H : Hp) (Q : VK) (q : tD K (fun σ => k < σ.length) (fun _ => rows0 41) σ H Q) :
    tLc (iRng1 (tCons (tC (.int 41)) tNil)) (gName k) tYes (tOp rRep (tLst (tCons (tC (.int 0)) tNil)) (tVar k)) [k] σ H Q := by
  refine ⟨_, rfl, by decide, by decide, fun D hD => ?_⟩
  refine lc_objs (walk_nat (n := 41)) (fun i => .lst (List.replicate i (.int 0))) hD (by rw [sizeLine_eq]; decide) (fun _ _ => trivial) ?_ ?_
  · rintro j x H2 H3 N hj s2 ⟨rfl, rfl⟩ hN
    have lk : k < (wipe σ [k]).length := by
      simpa [wipe] using q.1
    refine gName_by ⟨?_, one_le, fun l hl => ?_⟩
    · simp [wipe]
    · obtain ⟨H4, e4, s4, f4⟩ := gen H3 hl (.lst [.int 0])
      rw [e4]
      refine ⟨_, by rw [List.getElem?_set_self lk], l, _, _, rfl, rfl, f4, by omega, by omega, ?_, fun p hp => ?_⟩
      · rw [sizeLine_eq, List.length_singleton, Int.toNat_natCast]
        omega
      · have e : (List.replicate ((j : Nat) : Int).toNat [V.int 0]).flatten = List.replicate j (V.int 0) := by
          rw [Int.toNat_natCast]
          exact rep_self j (V.int 0)
        rw [e]
        obtain ⟨H5, e5, s5, f5⟩ := gen H4 hp (.lst (List.replicate j (V.int 0)))
        rw [e5]
        exact hN H5 p (s4.trans s5) (s4.free hp) f5
  · intro H' rs s1 o
    refine q.2 (.ref D) H' s1 (.lst (by rw [newH_of hD]; exact o.top) (dts_get (by rw [List.length_map, o.len, List.length_map, List.length_range]) fun i v d a b => ?_))
    rw [List.getElem?_map] at a b
    cases er : rs[i]? with
    | none =>
      rw [er] at a
      cases a
    | some r =>
      rw [er] at a
      cases a
      have il : i < 41 := by
        have := (List.getElem?_eq_some_iff.mp er).1
        rw [o.len] at this
        exact this
      rw [List.getElem?_range il] at b
      cases b
      exact .lst (by rw [newH_of (o.new r (List.mem_of_getElem? er))]; exact o.row i r er) (dts_rep i)
theorem dt_list {K : PySem.W.Frag} {H : Hp} {v : V} {ds : List PyData} (h : Dt K H v (.list ds)) : ∃ (a : Addr) (xs : List V), v = .ref a ∧ H a = some (.lst xs) ∧ Dts K H xs ds := by
  cases h with
  | lst h1 h2 => exact ⟨_, _, rfl, h1, h2⟩
theorem Dts.app {K : PySem.W.Frag} {H : Hp} : ∀ {xs ys : List V} {ds es : List PyData}, Dts K H xs ds → Dts K H ys es → Dts K H (xs ++ ys) (ds ++ es)
  | _, _, _, _, .nil, h => h
  | _, _, _, _, .cons a b, h => .cons a (Dts.app b h)
/-! ### Nice, decided -/
def leafB : PyData → Bool
  | .none => true
  | .bool _ => true
  | .int i => decide (i.natAbs < 2 ^ 100)
  | .str x => decide ((reprText x).length ≤ 110)
  | .dict kvs => kvs.isEmpty
  | _ => false
def niceB : Nat → PyData → Bool
  | 0, d => leafB d
  | n + 1, .list ds => decide (ds.length ≤ 50) && ds.all (niceB n)
  | n + 1, .tuple ds => decide (ds.length ≤ 50) && ds.all (niceB n)
  | _ + 1, d => leafB d
theorem leaf_of {d : PyData} (h : leafB d = true) : Leaf d := by
  cases d with
  | none => trivial
  | bool _ => trivial
  | int i => exact of_decide_eq_true (p := i.natAbs < 2 ^ 100) h
  | str x => exact of_decide_eq_true (p := (reprText x).length ≤ 110) h
  | dict kvs => exact List.isEmpty_iff.mp h
  | list _ => cases h
  | tuple _ => cases h
theorem nice_of : ∀ {n : Nat} {d : PyData}, niceB n d = true → Nice n d
  | 0, d, h => leaf_of h
  | n + 1, .list ds, h => by
    obtain ⟨a, b⟩ := Bool.and_eq_true_iff.mp h
    exact Nice.list (of_decide_eq_true a) fun e he => nice_of (List.all_eq_true.mp b e he)
  | n + 1, .tuple ds, h => by
    obtain ⟨a, b⟩ := Bool.and_eq_true_iff.mp h
    exact Nice.tuple (of_decide_eq_true a) fun e he => nice_of (List.all_eq_true.mp b e he)
  | n + 1, .none, h => Nice.leaf trivial
  | n + 1, .bool _, h => Nice.leaf trivial
  | n + 1, .int i, h => Nice.leaf (leaf_of h)
  | n + 1, .str x, h => Nice.leaf (leaf_of h)
  | n + 1, .dict kvs, h => Nice.leaf (leaf_of h)
section
variable {K : PySem.W.Frag} {er : Str → Addr} {H : Hp}
/-- both of the first two, or kinds alone -/
theorem bad2 {j : Nat} {x y : V} {dk dc : PyData} {c : Str} {v : V} (hj : j < 3) (dx : Dt K H x dk) (dy : Dt K H y dc) (h : ∀ H' E, Same H H' → Rf er c v H' E → RefC er H' x y dk dc E) (h0 : j = 0 → kindsD dk = false) : Refd K er j [x, y] H c v := by
  intro H' E s r
  refine .inl ⟨hj, ⟨x, y, rfl⟩, ?_⟩
  have h1 := h H' E s r
  unfold doorTwo
  by_cases e : j = 0
  · rw [if_pos e]
    refine ⟨x, y, dk, rfl, dx.same s, h0 e, ?_⟩
    rcases h1 with ⟨_, r⟩ | ⟨k, rfl, hk, _⟩
    · exact r
    · rw [h0 e] at hk
      cases hk
  · rw [if_neg e]
    exact ⟨x, y, dk, dc, rfl, dx.same s, dy.same s, h1⟩
theorem bad3 {j : Nat} {x y z : V} {dk dc dz : PyData} {c : Str} {v : V} (hj : j < 9) (dx : Dt K H x dk) (dy : Dt K H y dc) (dd : Dt K H z dz) (h : ∀ H' E, Same H H' → Rf er c v H' E → RefC er H' x y dk dc E) : Refd K er j [x, y, z] H c v := by
  intro H' E s r
  refine .inr ⟨hj, ⟨x, y, z, rfl⟩, ?_⟩
  have h1 := h H' E s r
  have three : ∀ {nz : Str} {bad : Int → List (List Int) → PyData → Prop}, spThree nz bad K er [x, y, z] H' (fun _ _ => False) E := ⟨x, y, z, dk, dc, dz, rfl, dx.same s, dy.same s, dd.same s, .inl h1⟩
  obtain rfl | rfl | rfl | rfl | rfl | rfl | rfl | rfl | rfl : j = 0 ∨ j = 1 ∨ j = 2 ∨ j = 3 ∨ j = 4 ∨ j = 5 ∨ j = 6 ∨ j = 7 ∨ j = 8 := by omega
  · exact three
  · exact three
  · exact three
  · exact three
  · exact ⟨x, y, z, dk, dc, dz, rfl, dx.same s, dy.same s, dd.same s, .inl h1⟩
  · exact three
  · exact three
  · exact ⟨x, y, z, dk, dc, dz, rfl, dx.same s, dy.same s, dd.same s, .inl h1⟩
  · exact three
/-- [refused(i, [..], word, v) for i in doors] -/
theorem ref_in {tb : TE} {ta : TA} {tl : TE} {σ : L2.St} {H : Hp} {Q : VK} {js : List Nat} {k : Nat} {v : V} {dv : PyData} (c : Str × Str) (R : Nat → Hp → List V → List PyData → Prop) (n9 : js.length ≤ 9)
    (hl : ∀ Q' : VK, (∀ l H', Same H H' → H' l = some (.lst (natV js)) → Q' (.ref l) H') → tl σ H Q')
    (hk : ∀ j : Nat, wipe ((wipe σ [k]).set k (some (.int (j : Nat)))) [k] = wipe σ [k] ∧ ((wipe σ [k]).set k (some (.int (j : Nat))))[k]? = some (some (.int (j : Nat))))
    (hb : ∀ (j : Nat) H' (Q' : VK), Q' v H' → tb ((wipe σ [k]).set k (some (.int (j : Nat)))) H' Q')
    (ha : ∀ (j : Nat) (H2 : Hp) (Q' : List V → Hp → Prop), j ∈ js → Same H H2 → (∀ H' vs ds, Same H2 H' → R j H' vs ds → Q' vs H') → ta ((wipe σ [k]).set k (some (.int (j : Nat)))) H2 Q')
    (hr : ∀ (j : Nat) H' vs ds, j ∈ js → Same H H' → R j H' vs ds → vs.length ≤ 10 ∧ Dts K H' vs ds ∧ ShowOk (.list ds) ∧ Refd K er j vs H' c.1 v)
    (dt : Dt K H v dv) (sv : ShowOk dv) (cm : c ∈ sixW) (q : ∀ p H', Same H H' → H p = none → H' p = some (.lst ((List.range js.length).map fun _ => V.bl true)) → Q (.ref p) H') :
    tLc (iList K tl) (gName k) tYes (tCall (spRefused K er) [] E0 (tCons (tVar k) (tCons (tLst ta) (tCons (tC (.str c.2)) (tCons tb tNil))))) [k] σ H Q := by
  refine hl _ fun l H1 s1 f1 => ⟨l, rfl, ⟨_, SqL.of f1⟩, fun D hD => ?_⟩
  have ln : (natV js).length = js.length := by simp [natV]
  refine lc_vals (walk_list (K := K) (a := l) (xs := natV js)) (fun _ => V.bl true) hD (Nat.le_of_lt (small1000 (by omega))) (fun H' s' => SqL.of (s' _ _ f1)) ?_ ?_
  · rintro i x H2 H3 N hj s2 ⟨rfl, ex⟩ hN
    rw [ln] at hj
    have ex' : x = .int ((js[i] : Nat) : Int) := by
      have e2 : (natV js)[i]? = some x := ex
      unfold natV at e2
      rw [List.getElem?_map, List.getElem?_eq_getElem hj] at e2
      cases e2
      rfl
    subst ex'
    have jm : js[i] ∈ js := List.getElem_mem hj
    refine gName_by ⟨(hk _).1, ?_⟩
    have s02 := s1.trans s2
    exact ref_call (d := js[i]) (v := v) (dv := dv) c (R js[i]) (fun H' Q' h => ⟨_, (hk _).2, h⟩) (hb _) (fun Q' h => ha _ _ Q' jm s02 h) (fun H' vs ds s' r => hr _ H' vs ds jm (s02.trans s') r) (Dt.same s02 _ _ dt) sv cm fun H' s' => hN H' s'
  · intro H' s' h'
    rw [ln] at h'
    exact q D H' (s1.trans s') (s1.free hD) h'
end
end GL
namespace GL
open PySem PySem.Spec PyProof.Rows L2
theorem rowsOk_app (k : Int) : ∀ (xs ys : List PyData) (n : Nat), rowsOk k n (xs ++ ys) = (rowsOk k n xs && rowsOk k (n + xs.length) ys)
  | [], ys, n => by simp [rowsOk]
  | x :: xs, ys, n => by
    show (rowOk k n x && rowsOk k (n + 1) (xs ++ ys)) = _
    rw [rowsOk_app k xs ys (n + 1)]
    show _ = ((rowOk k n x && rowsOk k (n + 1) xs) && _)
    rw [Bool.and_assoc, List.length_cons, show n + 1 + xs.length = n + (xs.length + 1) by omega]
/-- rows of the wrong length behind a company make none -/
theorem comp_long {k : Int} {kss : List (List Int)} {es : List PyData} {d : PyData} (h : rowOk k kss.length d = false) : compOk k (.list (kss.map rowP ++ d :: es)) = false := by
  show ((decide (1 ≤ (kss.map rowP ++ d :: es).length) && decide ((kss.map rowP ++ d :: es).length ≤ 40)) && rowsOk k 0 (kss.map rowP ++ d :: es)) = false
  rw [rowsOk_app, List.length_map, Nat.zero_add]
  show (_ && (_ && (rowOk k kss.length d && _))) = false
  rw [h, Bool.false_and, Bool.and_false, Bool.and_false]
theorem nice_rows {k : Int} {kss : List (List Int)} (f : Fine k kss) (k9 : k ≤ 9) (n : kss.length ≤ 40) : ∀ d ∈ kss.map rowP, Nice 1 d := by
  intro d hd
  obtain ⟨ks, hk, rfl⟩ := List.mem_map.mp hd
  obtain ⟨i, hi⟩ := List.getElem?_of_mem hk
  obtain ⟨l, b⟩ := f i ks hi
  have il := (List.getElem?_eq_some_iff.mp hi).1
  refine Nice.list (by rw [List.length_map]; omega) fun e he => ?_
  obtain ⟨z, hz, rfl⟩ := List.mem_map.mp he
  obtain ⟨z0, z1⟩ := b z hz
  refine Nice.leaf ?_
  show z.natAbs < 2 ^ 100
  omega
theorem nice_tab2 {k : Int} {kss : List (List Int)} (f : Fine k kss) (k9 : k ≤ 9) (n : kss.length ≤ 40) : Nice 2 (tabP kss) := Nice.list (by rw [List.length_map]; omega) (nice_rows f k9 n)
/-- args of at most four nice things -/
theorem show_args {ds : List PyData} (l : ds.length ≤ 4) (h : ∀ d ∈ ds, Nice 2 d) : ShowOk (.list ds) := (Nice.list (n := 2) (by omega) h).fits
theorem show_nice {d : PyData} (h : Nice 2 d) : ShowOk d := (Nice.up h).fits
theorem nices2 {a b : PyData} (x : Nice 2 a) (y : Nice 2 b) : ∀ d ∈ [a, b], Nice 2 d := fun d hd => by
  simp only [List.mem_cons, List.not_mem_nil, or_false] at hd
  rcases hd with rfl | rfl
  · exact x
  · exact y
theorem nices3 {a b c : PyData} (x : Nice 2 a) (y : Nice 2 b) (z : Nice 2 c) : ∀ d ∈ [a, b, c], Nice 2 d := fun d hd => by
  simp only [List.mem_cons, List.not_mem_nil, or_false] at hd
  rcases hd with rfl | rfl | rfl
  · exact x
  · exact y
  · exact z
theorem show2 {a b : PyData} (x : Nice 2 a) (y : Nice 2 b) : ShowOk (.list [a, b]) := show_args (by show 2 ≤ 4; decide) (nices2 x y)
theorem show3 {a b c : PyData} (x : Nice 2 a) (y : Nice 2 b) (z : Nice 2 c) : ShowOk (.list [a, b, c]) := show_args (by show 3 ≤ 4; decide) (nices3 x y z)
theorem nice_int {k : Int} (a : 0 ≤ k) (b : k ≤ 1000) : Nice 2 (.int k) := Nice.leaf (by show k.natAbs < 2 ^ 100; omega)
theorem nice_non : Nice 2 .none := Nice.leaf trivial
theorem kinds_d {k : Int} (a : 2 ≤ k) (b : k ≤ 9) : kindsD (.int k) = true := by
  show (decide (2 ≤ k) && decide (k ≤ 9)) = true
  rw [decide_eq_true a, decide_eq_true b]
  rfl
end GL

namespace K05
open PySem PySem.Spec PyProof.Rows
open L2
open GL
/-- the answers are all True -/
def spHeads (K : PySem.W.Frag) (er : Str → Addr) : Sp := fun vs H Q _ => ∃ (k : Int) (c : Addr) (rs : List Addr) (kss : List (List Int)), vs = [.int k, .ref c] ∧ 2 ≤ k ∧ k ≤ 9 ∧ Tab H c rs kss ∧ Fine k kss ∧ 2 ≤ kss.length ∧ kss.length ≤ 6 ∧
  ∀ (p : Addr) (n : Nat) (H' : Hp), Same H H' → H p = none → Due H' p n → n ≤ 1000 → Q (.ref p) H'
def badK : List PyData := [.none, .int 1, .int 10, .int 0, .int (0 - 1), .bool true, .str "2", .list [.int 2], .tuple [.int 2], .dict [], .int (10 ^ (29 : Int).toNat)]
theorem badK_ok : ∀ d ∈ badK, kindsD d = false ∧ Nice 2 d := by
  have h1 : badK.all (fun d => !kindsD d) = true := by decide +kernel
  have h2 : badK.all (niceB 2) = true := by decide +kernel
  exact fun d hd => ⟨by simpa using List.all_eq_true.mp h1 d hd, nice_of (List.all_eq_true.mp h2 d hd)⟩
def badA (k : Int) : List PyData := [.none, .list [], .dict [], .int 7, .str "2:", .list [.list [.int 0]], .list [.list [], .list []], .list [.list [], .list [.int k]], .list [.list [], .list [.int (0 - 1)]], .list [.list [], .list [.bool true]], .list [.list [], .list [.none]], .tuple [.list []]]
def badB : List PyData := [.list [.list [], .tuple [.int 0]], .list [.list [], .list [.int 0], .list [.int 0]], rows0 41, .list [.list [], .list [.int 0, .int 0]], .list [.list [], .list [.str "0"]]]
theorem badAB_ok {k : Int} (k2 : 2 ≤ k) (k9 : k ≤ 9) : ∀ d ∈ badA k ++ badB, compOk k d = false ∧ Nice 2 d := by
  have h1 : (badA k ++ badB).all (fun d => !compOk k d) = true := by
    obtain rfl | rfl | rfl | rfl | rfl | rfl | rfl | rfl : k = 2 ∨ k = 3 ∨ k = 4 ∨ k = 5 ∨ k = 6 ∨ k = 7 ∨ k = 8 ∨ k = 9 := by omega
    all_goals decide +kernel
  have h2 : (badA k ++ badB).all (niceB 2) = true := by
    obtain rfl | rfl | rfl | rfl | rfl | rfl | rfl | rfl : k = 2 ∨ k = 3 ∨ k = 4 ∨ k = 5 ∨ k = 6 ∨ k = 7 ∨ k = 8 ∨ k = 9 := by omega
    all_goals decide +kernel
  exact fun d hd => ⟨by simpa using List.all_eq_true.mp h1 d hd, nice_of (List.all_eq_true.mp h2 d hd)⟩
section
variable {P : Program} {w : World} {K : PySem.W.Frag} {mg : Str → Option Value} {base : Heap}
variable {er : Str → Addr}
abbrev sHeads : Stmt := topS 63
abbrev nHeads : List Str := ["_law_kinds", "_law_company_here", "_law_due", "_law_bad", "_law_other", "_law_door", "_law_wrong", "_law_person", "_law_longer"]
theorem scHeads : FnScope nHeads ["_law_kinds", "_law_company_here"] (defScope sHeads) := ⟨rfl, rfl, rfl, by decide +kernel, rfl, by decide +kernel, by decide +kernel⟩
theorem ok_heads {f : Addr} {fd : FuncData} (F : Fun K "_law_heads_refused" "_law_heads_refused" sHeads f fd) (T : Bi mg) (ULrefused : UseG P w K mg base "_law_refused" ["_law_door", "_law_args", "_law_name", "_law_field"] (spRefused K er) 9) : FnG P w K mg base CX0 10 f fd ["_law_kinds", "_law_company_here"] (spHeads K er) := by
  refine FnG.mk' F scHeads (fun vs H Q E h => ?_) (fun cdv A outer s H vs Q E hgd hr h => ?_)
  · obtain ⟨k, c, rs, kss, rfl, _⟩ := h
    rfl
  · obtain ⟨k, c, rs, kss, rfl, k2, k9, t, fine, m2, m6, q⟩ := h
    have hgd' : (A.deeper (envOfC "_law_heads_refused" (defScope sHeads) s.heap.objs.size f cdv)).guards = some [] := hgd
    refine ⟨_, (pss_cons (ps_set (i := 2) scHeads.nd rfl (Or.inl rfl) (pe_lst pa_nil))
      (pss_cons (ps_for PassesOwn.never rfl (pi_list (pd_list (pds_cons (pd_non pe_non) (pds_cons (pd_int pe_int) (pds_cons (pd_int pe_int) (pds_cons (pd_int pe_int) (pds_cons (pd_sub (pe_op op_sub pe_int pe_int)) (pds_cons (pd_bl pe_bl) (pds_cons (pd_str pe_str) (pds_cons (pd_list (pds_cons (pd_int pe_int) pds_nil) (fun _ => by show 1 ≤ sizeLine; decide)) (pds_cons (pd_tup (pds_cons (pd_int pe_int) pds_nil) (fun _ => by show 1 ≤ sizeLine; decide)) (pds_cons (pd_dct pe_dnewK) (pds_cons (pd_pow (pe_op op_pow pe_int pe_int) (by refine ⟨?_, ?_, ?_⟩ <;> decide)) pds_nil))))))))))) (fun _ => by show 11 ≤ sizeLine; decide))) (pg_name (i := 3) scHeads.nd rfl (Or.inr rfl))
        (pss_one (ps_for PassesOwn.never rfl (pi_list (pe_lst (pa_cons (pv 1) (pa_cons pe_non pa_nil)))) (pg_name (i := 4) scHeads.nd rfl (Or.inr rfl))
          (pss_cons (ps_set (i := 2) scHeads.nd rfl (Or.inl rfl) (pe_op op_cat (pv 2) (pe_lc (own := [("_law_door", 5)]) (g := (gName 5)) (tt := tYes) (te := (tCall (spRefused K er) [] E0 (tCons (tVar 5) (tCons (tLst (tCons (tVar 3) (tCons (tVar 4) tNil))) (tCons (tC (.str "number")) (tCons (tVar 3) tNil)))))) rfl scHeads.nd (pi_range1 (by rfl) T.range (pa_cons pe_int pa_nil))
            (blkOk_by (N := nHeads) (sc := (defScope sHeads)) (by decide +kernel)) (fun _ _ _ _ _ => (pg_name (i := 5) scHeads.nd rfl (Or.inl rfl))) (fun _ _ _ _ _ => by exact pts_nil)
            (fun _ _ _ _ _ => by exact (pe_useG ULrefused hgd' hr (by rfl) (pa_cons (pv 5) (pa_cons (pe_lst (pa_cons (pv 3) (pa_cons (pv 4) pa_nil))) (pa_cons pe_str (pa_cons (pv 3) pa_nil)))))))))
          (pss_one (ps_set (i := 2) scHeads.nd rfl (Or.inl rfl) (pe_op op_cat (pv 2) (pe_lc (own := [("_law_door", 5)]) (g := (gName 5)) (tt := tYes) (te := (tCall (spRefused K er) [] E0 (tCons (tVar 5) (tCons (tLst (tCons (tVar 3) (tCons (tVar 4) (tCons (tC .non) tNil)))) (tCons (tC (.str "number")) (tCons (tVar 3) tNil)))))) rfl scHeads.nd (pi_range1 (by rfl) T.range (pa_cons pe_int pa_nil))
            (blkOk_by (N := nHeads) (sc := (defScope sHeads)) (by decide +kernel)) (fun _ _ _ _ _ => (pg_name (i := 5) scHeads.nd rfl (Or.inl rfl))) (fun _ _ _ _ _ => by exact pts_nil)
            (fun _ _ _ _ _ => by exact (pe_useG ULrefused hgd' hr (by rfl) (pa_cons (pv 5) (pa_cons (pe_lst (pa_cons (pv 3) (pa_cons (pv 4) (pa_cons pe_non pa_nil)))) (pa_cons pe_str (pa_cons (pv 3) pa_nil))))))))))))))
      (pss_cons (ps_set (i := 6) scHeads.nd rfl (Or.inl rfl) (pd_list (pds_cons (pd_non pe_non) (pds_cons (pd_list pds_nil (fun _ => by show 0 ≤ sizeLine; decide)) (pds_cons (pd_dct pe_dnewK) (pds_cons (pd_int pe_int) (pds_cons (pd_str pe_str) (pds_cons (pd_list (pds_cons (pd_list (pds_cons (pd_int pe_int) pds_nil) (fun _ => by show 1 ≤ sizeLine; decide)) pds_nil) (fun _ => by show 1 ≤ sizeLine; decide)) (pds_cons (pd_list (pds_cons (pd_list pds_nil (fun _ => by show 0 ≤ sizeLine; decide)) (pds_cons (pd_list pds_nil (fun _ => by show 0 ≤ sizeLine; decide)) pds_nil)) (fun _ => by show 2 ≤ sizeLine; decide)) (pds_cons (pd_list (pds_cons (pd_list pds_nil (fun _ => by show 0 ≤ sizeLine; decide)) (pds_cons (pd_list (pds_cons (pd_var (pv 0)) pds_nil) (fun _ => by show 1 ≤ sizeLine; decide)) pds_nil)) (fun _ => by show 2 ≤ sizeLine; decide)) (pds_cons (pd_list (pds_cons (pd_list pds_nil (fun _ => by show 0 ≤ sizeLine; decide)) (pds_cons (pd_list (pds_cons (pd_sub (pe_op op_sub pe_int pe_int)) pds_nil) (fun _ => by show 1 ≤ sizeLine; decide)) pds_nil)) (fun _ => by show 2 ≤ sizeLine; decide)) (pds_cons (pd_list (pds_cons (pd_list pds_nil (fun _ => by show 0 ≤ sizeLine; decide)) (pds_cons (pd_list (pds_cons (pd_bl pe_bl) pds_nil) (fun _ => by show 1 ≤ sizeLine; decide)) pds_nil)) (fun _ => by show 2 ≤ sizeLine; decide)) (pds_cons (pd_list (pds_cons (pd_list pds_nil (fun _ => by show 0 ≤ sizeLine; decide)) (pds_cons (pd_list (pds_cons (pd_non pe_non) pds_nil) (fun _ => by show 1 ≤ sizeLine; decide)) pds_nil)) (fun _ => by show 2 ≤ sizeLine; decide)) (pds_cons (pd_tup (pds_cons (pd_list pds_nil (fun _ => by show 0 ≤ sizeLine; decide)) pds_nil) (fun _ => by show 1 ≤ sizeLine; decide)) pds_nil)))))))))))) (fun _ => by show 12 ≤ sizeLine; decide)))
      (pss_cons (ps_set (i := 6) scHeads.nd rfl (Or.inl rfl) (pe_op op_cat (pv 6) (pd_list (pds_cons (pd_list (pds_cons (pd_list pds_nil (fun _ => by show 0 ≤ sizeLine; decide)) (pds_cons (pd_tup (pds_cons (pd_int pe_int) pds_nil) (fun _ => by show 1 ≤ sizeLine; decide)) pds_nil)) (fun _ => by show 2 ≤ sizeLine; decide)) (pds_cons (pd_list (pds_cons (pd_list pds_nil (fun _ => by show 0 ≤ sizeLine; decide)) (pds_cons (pd_list (pds_cons (pd_int pe_int) pds_nil) (fun _ => by show 1 ≤ sizeLine; decide)) (pds_cons (pd_list (pds_cons (pd_int pe_int) pds_nil) (fun _ => by show 1 ≤ sizeLine; decide)) pds_nil))) (fun _ => by show 3 ≤ sizeLine; decide)) (pds_cons (pd_of (pe_lc (own := [("_law_person", 7)]) (g := (gName 7)) (tt := tYes) (te := (tOp rRep (tLst (tCons (tC (.int 0)) tNil)) (tVar 7))) rfl scHeads.nd (pi_range1 (by rfl) T.range (pa_cons pe_int pa_nil))
            (blkOk_by (N := nHeads) (sc := (defScope sHeads)) (by decide +kernel)) (fun _ _ _ _ _ => (pg_name (i := 7) scHeads.nd rfl (Or.inl rfl))) (fun _ _ _ _ _ => by exact pts_nil)
            (fun _ _ _ _ _ => by exact (pe_op op_rep (pe_lst (pa_cons pe_int pa_nil)) (pv 7)))) (rows0_w (k := 7))) (pds_cons (pd_list (pds_cons (pd_list pds_nil (fun _ => by show 0 ≤ sizeLine; decide)) (pds_cons (pd_list (pds_cons (pd_int pe_int) (pds_cons (pd_int pe_int) pds_nil)) (fun _ => by show 2 ≤ sizeLine; decide)) pds_nil)) (fun _ => by show 2 ≤ sizeLine; decide)) (pds_cons (pd_list (pds_cons (pd_list pds_nil (fun _ => by show 0 ≤ sizeLine; decide)) (pds_cons (pd_list (pds_cons (pd_str pe_str) pds_nil) (fun _ => by show 1 ≤ sizeLine; decide)) pds_nil)) (fun _ => by show 2 ≤ sizeLine; decide)) pds_nil))))) (fun _ => by show 5 ≤ sizeLine; decide))))
      (pss_cons (ps_for PassesOwn.never rfl (pi_list (pe_op op_cat (pv 6) (pe_lst (pa_cons (pe_op op_cat (pv 1) (pe_op op_rep (pd_list (pds_cons (pd_list (pds_cons (pd_int pe_int) pds_nil) (fun _ => by show 1 ≤ sizeLine; decide)) pds_nil) (fun _ => by show 1 ≤ sizeLine; decide)) pe_int)) pa_nil)))) (pg_name (i := 3) scHeads.nd rfl (Or.inr rfl))
        (pss_cons (ps_set (i := 2) scHeads.nd rfl (Or.inl rfl) (pe_op op_cat (pv 2) (pe_lc (own := [("_law_door", 5)]) (g := (gName 5)) (tt := tYes) (te := (tCall (spRefused K er) [] E0 (tCons (tVar 5) (tCons (tLst (tCons (tVar 0) (tCons (tVar 3) tNil))) (tCons (tC (.str "company")) (tCons (tVar 3) tNil)))))) rfl scHeads.nd (pi_list (pd_list (pds_cons (pd_int pe_int) (pds_cons (pd_int pe_int) pds_nil)) (fun _ => by show 2 ≤ sizeLine; decide)))
            (blkOk_by (N := nHeads) (sc := (defScope sHeads)) (by decide +kernel)) (fun _ _ _ _ _ => (pg_name (i := 5) scHeads.nd rfl (Or.inl rfl))) (fun _ _ _ _ _ => by exact pts_nil)
            (fun _ _ _ _ _ => by exact (pe_useG ULrefused hgd' hr (by rfl) (pa_cons (pv 5) (pa_cons (pe_lst (pa_cons (pv 0) (pa_cons (pv 3) pa_nil))) (pa_cons pe_str (pa_cons (pv 3) pa_nil)))))))))
        (pss_cons (ps_set (i := 2) scHeads.nd rfl (Or.inl rfl) (pe_op op_cat (pv 2) (pe_lc (own := [("_law_door", 5)]) (g := (gName 5)) (tt := tYes) (te := (tCall (spRefused K er) [] E0 (tCons (tVar 5) (tCons (tLst (tCons (tVar 0) (tCons (tVar 3) (tCons (tC .non) tNil)))) (tCons (tC (.str "company")) (tCons (tVar 3) tNil)))))) rfl scHeads.nd (pi_range1 (by rfl) T.range (pa_cons pe_int pa_nil))
            (blkOk_by (N := nHeads) (sc := (defScope sHeads)) (by decide +kernel)) (fun _ _ _ _ _ => (pg_name (i := 5) scHeads.nd rfl (Or.inl rfl))) (fun _ _ _ _ _ => by exact pts_nil)
            (fun _ _ _ _ _ => by exact (pe_useG ULrefused hgd' hr (by rfl) (pa_cons (pv 5) (pa_cons (pe_lst (pa_cons (pv 0) (pa_cons (pv 3) (pa_cons pe_non pa_nil)))) (pa_cons pe_str (pa_cons (pv 3) pa_nil)))))))))
        (pss_one (ps_expr (pe_bm PySem.F.plainAttrs_list PySem.F.slot_list_append PySem.F.type_list_append mt_append (pv 2) (pa_cons (pe_useG ULrefused hgd' hr (by rfl) (pa_cons pe_int (pa_cons (pe_lst (pa_cons (pv 0) (pa_cons (pv 1) (pa_cons (pv 3) pa_nil)))) (pa_cons pe_str (pa_cons (pv 3) pa_nil))))) pa_nil)))))))
      (pss_cons (ps_set (i := 8) scHeads.nd rfl (Or.inl rfl) (pe_op op_cat (pv 1) (pe_lst (pa_cons (pe_op op_rep (pd_list (pds_cons (pd_int pe_int) pds_nil) (fun _ => by show 1 ≤ sizeLine; decide)) (pe_callB call_len_seq (by rfl) T.len PySem.boot_len (pa_cons (pv 1) pa_nil))) pa_nil))))
      (pss_cons (ps_expr (pe_bm PySem.F.plainAttrs_list PySem.F.slot_list_append PySem.F.type_list_append mt_append (pv 2) (pa_cons (pe_useG ULrefused hgd' hr (by rfl) (pa_cons pe_int (pa_cons (pe_lst (pa_cons (pv 0) (pa_cons (pv 1) (pa_cons (pv 8) pa_nil)))) (pa_cons pe_str (pa_cons (pv 8) pa_nil))))) pa_nil)))
      (pss_one (ps_ret (pe_op op_cat (pv 2) (pe_lst (pa_cons (pe_useG ULrefused hgd' hr (by rfl) (pa_cons pe_int (pa_cons (pe_lst (pa_cons (pv 0) (pa_cons (pv 8) (pa_cons (pv 1) pa_nil)))) (pa_cons pe_str (pa_cons (pv 1) pa_nil))))) pa_nil)))))))))))), ?_⟩
    have kd : kindsD (.int k) = true := by
      show (decide (2 ≤ k) && decide (k ≤ 9)) = true
      rw [decide_eq_true k2, decide_eq_true k9]
      rfl
    have lr : rs.length = kss.length := t.len
    have n40 : kss.length ≤ 40 := by omega
    have nc : Nice 2 (tabP kss) := nice_tab2 fine k9 n40
    refine ⟨Nat.zero_le _, fun f0 hf0 => ?_⟩
    obtain ⟨H1, e1, s1, f1⟩ := gen H hf0 (.lst [])
    rw [e1]
    clear e1
    dsimp only
    refine seq_by (fun σ H' => ∃ (f : Addr) (y z : Option V) (n : Nat), σ = [some (.int k), some (.ref c), some (.ref f), y, z, none, none, none, none] ∧ Same H H' ∧ Due H' f n ∧ n ≤ 264 ∧ H f = none) ?_ ?_
    · intro nx hnx
      refine ⟨by repeat' (first | exact trivial | exact ⟨_, rfl⟩ | refine ⟨?_, ?_⟩), fun v H2 s2 dv => ?_⟩
      obtain ⟨a, xs, rfl, ha, hx⟩ := dt_list dv
      replace ha := newH_le _ _ ha
      replace hx : Dts K H2 xs badK := Dts.same newH_le _ _ hx
      have l11 : xs.length = 11 := hx.length
      refine ⟨a, rfl, ⟨_, SqL.of ha⟩, ?_⟩
      refine for_list (K := K) (a := a) (xs := xs) (fun i σ H' => ∃ (f : Addr) (y z : Option V) (n : Nat), σ = [some (.int k), some (.ref c), some (.ref f), y, z, none, none, none, none] ∧ Same H2 H' ∧ Due H' f n ∧ n ≤ 24 * i ∧ H f = none)
        ⟨f0, _, _, 0, rfl, Same.refl _, s2 _ _ f1, Nat.le_refl _, hf0⟩ (fun i σ H' _ z => by
          obtain ⟨_, _, _, _, _, s', _⟩ := z
          exact SqL.of (s' _ _ ha)) ?_ ?_
      · rintro i v σ H3 hi ⟨f, y, z, n, rfl, s3, due, ni, nf⟩
        obtain ⟨dv, ev, dt⟩ := hx.get hi
        obtain ⟨kf, nv⟩ := badK_ok dv (List.mem_of_getElem? ev)
        have il : i < 11 := by
          have := (List.getElem?_eq_some_iff.mp hi).1
          omega
        have s03 := (s1.trans s2).trans s3
        refine ⟨_, rfl, (by show 2 ≤ sizeLine; decide), fun l hl => ?_⟩
        obtain ⟨H4, e4, s4, f4⟩ := gen H3 hl (.lst [.ref c, .non])
        show _
        rw [e4]
        clear e4
        refine ⟨l, rfl, ⟨_, SqL.of f4⟩, ?_⟩
        have s04 := s03.trans s4
        have s24 := s3.trans s4
        refine for_list (K := K) (a := l) (xs := [.ref c, .non]) (fun j σ H' => ∃ (f : Addr) (z : Option V) (m : Nat), σ = [some (.int k), some (.ref c), some (.ref f), some v, z, none, none, none, none] ∧ Same H4 H' ∧ Due H' f m ∧ m ≤ n + 12 * j ∧ H f = none)
          ⟨f, _, n, rfl, Same.refl _, s4 _ _ due, Nat.le_refl _, nf⟩ (fun i σ H' _ z => by
            obtain ⟨_, _, _, _, s', _⟩ := z
            exact SqL.of (s' _ _ f4)) ?_ ?_
        · rintro j o σ H5 hj ⟨f, z, m, rfl, s5, due, mj, nf⟩
          have s05 := s04.trans s5
          have s25 := s24.trans s5
          have jl : j < 2 := (List.getElem?_eq_some_iff.mp hj).1
          obtain ⟨dw, dto, no⟩ : ∃ d, Dt K H o d ∧ Nice 2 d := by
            match j, hj with
            | 0, hj =>
              cases hj
              exact ⟨_, t.dt, nc⟩
            | 1, hj =>
              cases hj
              exact ⟨_, .non, Nice.leaf trivial⟩
          have kr : ∀ {H6 : Hp} (H' : Hp) (E : XK), Same H6 H' → Rf er "InvalidNumber" v H' E → RefC er H' v o dv dw E := fun _ _ _ r => .inl ⟨kf, r⟩
          refine ⟨_, rfl, ?_⟩
          refine ref_rng (n := 3) (v := v) (dv := dv) ("InvalidNumber", "number") (fun _ _ vs ds => vs = [v, o] ∧ ds = [dv, dw]) (by decide) (fun _ => ⟨rfl, rfl⟩) (fun _ _ _ h => ⟨_, rfl, h⟩) (fun _ _ _ _ _ h => ⟨_, rfl, _, rfl, h _ _ _ (Same.refl _) ⟨rfl, rfl⟩⟩)
            (fun j' H' vs ds hj' s' r => ?_) (dt.same s25) (show_nice nv) (by decide) (fun p H6 s6 np hp => ?_)
          · obtain ⟨rfl, rfl⟩ := r
            have d1 := (dt.same s25).same s'
            have d2 := (dto.same s05).same s'
            exact ⟨(by show 2 ≤ 10; decide), .cons d1 (.cons d2 .nil), show2 nv no, bad2 hj' d1 d2 kr fun _ => kf⟩
          refine ⟨f, p, _, _, rfl, rfl, s6 _ _ due, hp, (by rw [sizeLine_eq, List.length_replicate, List.length_map, List.length_range]; omega), fun p2 hp2 => ?_⟩
          rw [due_cat]
          obtain ⟨H7, e7, s7, f7⟩ := gen H6 hp2 (.lst (List.replicate (m + 3) (.bl true)))
          rw [e7]
          clear e7
          have s57 := s6.trans s7
          have s07 := s05.trans s57
          have s27 := s25.trans s57
          refine ⟨_, rfl, ?_⟩
          refine ref_rng (n := 9) (v := v) (dv := dv) ("InvalidNumber", "number") (fun _ _ vs ds => vs = [v, o, .non] ∧ ds = [dv, dw, .none]) (by decide) (fun _ => ⟨rfl, rfl⟩) (fun _ _ _ h => ⟨_, rfl, h⟩) (fun _ _ _ _ _ h => ⟨_, rfl, _, rfl, h _ _ _ (Same.refl _) ⟨rfl, rfl⟩⟩)
            (fun j' H' vs ds hj' s' r => ?_) (dt.same s27) (show_nice nv) (by decide) (fun p3 H8 s8 np3 hp3 => ?_)
          · obtain ⟨rfl, rfl⟩ := r
            have d1 := (dt.same s27).same s'
            have d2 := (dto.same s07).same s'
            exact ⟨(by show 3 ≤ 10; decide), .cons d1 (.cons d2 (.cons .non .nil)), show3 nv no nice_non, bad3 hj' d1 d2 .non kr⟩
          refine ⟨p2, p3, _, _, rfl, rfl, s8 _ _ f7, hp3, (by rw [sizeLine_eq, List.length_replicate, List.length_map, List.length_range]; omega), fun p4 hp4 => ?_⟩
          rw [due_cat]
          obtain ⟨H9, e9, s9, f9⟩ := gen H8 hp4 (.lst (List.replicate (m + 3 + 9) (.bl true)))
          rw [e9]
          clear e9
          exact ⟨p4, _, _, rfl, s5.trans (s57.trans (s8.trans s9)), f9, by omega, (s07.trans s8).free hp4⟩
        · rintro σ H5 ⟨f, z, m, rfl, s5, due, mj, nf⟩
          exact ⟨f, _, _, m, rfl, s24.trans s5, due, by have : ([V.ref c, V.non] : List V).length = 2 := rfl; omega, nf⟩
      · rintro σ H3 ⟨f, y, z, n, rfl, s3, due, ni, nf⟩
        exact hnx _ _ ⟨f, y, z, n, rfl, (s1.trans s2).trans s3, due, by omega, nf⟩
    rintro σ H2 ⟨f, y, z, n, rfl, s2, due, n264, nf⟩
    refine ⟨by repeat' (first | exact trivial | exact ⟨_, rfl⟩ | refine ⟨?_, ?_⟩), fun v1 H3 s3 dv1 => ?_⟩
    obtain ⟨a1, x1, rfl, ha1, hx1⟩ := dt_list dv1
    replace ha1 := newH_le _ _ ha1
    replace hx1 : Dts K H3 x1 (badA k) := Dts.same newH_le _ _ hx1
    have l12 : x1.length = 12 := hx1.length
    refine ⟨_, rfl, by repeat' (first | exact trivial | exact ⟨_, rfl⟩ | exact (show 7 < 9 by decide) | refine ⟨?_, ?_⟩), fun v2 H4 s4 dv2 => ?_⟩
    obtain ⟨a2, x2, rfl, ha2, hx2⟩ := dt_list dv2
    replace ha2 := newH_le _ _ ha2
    replace hx2 : Dts K H4 x2 badB := Dts.same newH_le _ _ hx2
    have l5 : x2.length = 5 := hx2.length
    refine ⟨a1, a2, x1, x2, rfl, rfl, s4 _ _ ha1, ha2, (by rw [sizeLine_eq]; omega), fun a3 na3 => ?_⟩
    obtain ⟨H5, e5, s5, f5⟩ := gen H4 na3 (.lst (x1 ++ x2))
    rw [e5]
    clear e5
    have hx3 : Dts K H5 (x1 ++ x2) (badA k ++ badB) := Dts.app (Dts.same (s4.trans s5) _ _ hx1) (Dts.same s5 _ _ hx2)
    have s25 := s3.trans (s4.trans s5)
    have s05 := s2.trans s25
    refine ⟨_, rfl, _, rfl, by repeat' (first | exact trivial | refine ⟨?_, ?_⟩), fun v4 H6 s6 dv4 => ?_⟩
    obtain ⟨a4, x4, rfl, ha4, hx4⟩ := dt_list dv4
    replace ha4 := newH_le _ _ ha4
    replace hx4 : Dts K H6 x4 [.list [.int 0]] := Dts.same newH_le _ _ hx4
    have l4 : x4.length = 1 := hx4.length
    refine ⟨a4, 2, x4, rfl, rfl, ha4, by decide, by decide, (by rw [sizeLine_eq, l4]; decide), fun a6 na6 => ?_⟩
    obtain ⟨H7, e7, s7, f7⟩ := gen H6 na6 (.lst (x4 ++ x4))
    have ex4 : (List.replicate (2 : Int).toNat x4).flatten = x4 ++ x4 := by
      show (List.replicate 2 x4).flatten = _
      simp [List.replicate]
    rw [ex4, e7]
    clear e7 ex4
    have s57 := s6.trans s7
    refine ⟨c, a6, _, _, rfl, rfl, (s05.trans s57) _ _ t.top, f7, (by rw [sizeLine_eq, List.length_map, List.length_append]; omega), fun a7 na7 => ?_⟩
    obtain ⟨H8, e8, s8, f8⟩ := gen H7 na7 (.lst (rs.map V.ref ++ (x4 ++ x4)))
    rw [e8]
    clear e8
    have s58 := s57.trans s8
    have s08 := s05.trans s58
    have hx8 : Dts K H8 (rs.map V.ref ++ (x4 ++ x4)) (kss.map rowP ++ [.list [.int 0], .list [.int 0]]) := by
      have h1 : Dt K H8 (.ref c) (tabP kss) := (t.same s08).dt
      obtain ⟨c', xs', e, hc, hs⟩ := dt_list h1
      cases e
      rw [(t.same s08).top] at hc
      cases hc
      exact Dts.app hs (Dts.app (ds := [.list [.int 0]]) (es := [.list [.int 0]]) (Dts.same (s7.trans s8) _ _ hx4) (Dts.same (s7.trans s8) _ _ hx4))
    refine ⟨one_le, fun a8 na8 => ?_⟩
    obtain ⟨H9, e9, s9, f9⟩ := gen H8 na8 (.lst [.ref a7])
    rw [e9]
    clear e9
    refine ⟨a3, a8, _, _, rfl, rfl, (s58.trans s9) _ _ f5, f9, (by rw [sizeLine_eq, List.length_append, List.length_singleton]; omega), fun a9 na9 => ?_⟩
    obtain ⟨H10, e10, s10, f10⟩ := gen H9 na9 (.lst (x1 ++ x2 ++ [.ref a7]))
    rw [e10]
    clear e10
    have s510 := s58.trans (s9.trans s10)
    have s010 := s05.trans s510
    have hall : Dts K H10 (x1 ++ x2 ++ [.ref a7]) (badA k ++ badB ++ [.list (kss.map rowP ++ [.list [.int 0], .list [.int 0]])]) :=
      Dts.app (Dts.same s510 _ _ hx3) (.cons (.lst ((s9.trans s10) _ _ f8) (Dts.same (s9.trans s10) _ _ hx8)) .nil)
    have hbad : ∀ d ∈ badA k ++ badB ++ [.list (kss.map rowP ++ [.list [.int 0], .list [.int 0]])], compOk k d = false ∧ Nice 2 d := by
      intro d hd
      rcases List.mem_append.mp hd with hd | hd
      · exact badAB_ok k2 k9 d hd
      · rw [List.mem_singleton] at hd
        subst hd
        refine ⟨comp_long ?_, Nice.list ?_ ?_⟩
        · show (decide ((([PyData.int 0] : List PyData).length : Int) = (kss.length : Int)) && _) = false
          rw [decide_eq_false (by show ¬ ((1 : Nat) : Int) = _; omega), Bool.false_and]
        · rw [List.length_append, List.length_map]
          show kss.length + 2 ≤ 50
          omega
        · intro e he
          rcases List.mem_append.mp he with he | he
          · exact nice_rows fine k9 n40 e he
          · exact nice_of (List.all_eq_true.mp (show ([.list [.int 0], .list [.int 0]] : List PyData).all (niceB 1) = true by decide +kernel) e he)
    have lall : (x1 ++ x2 ++ [V.ref a7]).length = 18 := by
      rw [List.length_append, List.length_append, l12, l5]
      rfl
    have due10 := (s25.trans s510) _ _ due
    generalize hA : badA k ++ badB ++ [.list (kss.map rowP ++ [.list [.int 0], .list [.int 0]])] = AD at hall hbad
    generalize hX : x1 ++ x2 ++ [V.ref a7] = AX at *
    refine ⟨a9, rfl, ⟨_, SqL.of f10⟩, ?_⟩
    refine for_list (K := K) (a := a9) (xs := AX) (fun i σ H' => ∃ (f : Addr) (y z : Option V) (m : Nat), σ = [some (.int k), some (.ref c), some (.ref f), y, z, none, some (.ref a3), none, none] ∧ Same H10 H' ∧ Due H' f m ∧ m ≤ n + 12 * i ∧ H f = none)
      ⟨f, _, _, n, rfl, Same.refl _, due10, Nat.le_refl _, nf⟩ (fun i σ H' _ z => by
        obtain ⟨_, _, _, _, _, s', _⟩ := z
        exact SqL.of (s' _ _ f10)) ?_ ?_
    · rintro i v σ H11 hi ⟨f, y, z, m, rfl, s11, due, mi, nf⟩
      obtain ⟨dv, ev, dt⟩ := hall.get hi
      obtain ⟨bad, nv⟩ := hbad dv (List.mem_of_getElem? ev)
      have il : i < 18 := by
        have := (List.getElem?_eq_some_iff.mp hi).1
        omega
      have s011 := s010.trans s11
      have kr : ∀ {H6 : Hp} (H' : Hp) (E : XK), Same H6 H' → Rf er "InvalidCompany" v H' E → RefC er H' (.int k) v (.int k) dv E := fun _ _ _ r => .inr ⟨k, rfl, kinds_d k2 k9, bad, r⟩
      have nk : Nice 2 (.int k) := nice_int (by omega) (by omega)
      refine ⟨_, rfl, ?_⟩
      refine ref_in (js := [1, 2]) (v := v) (dv := dv) ("InvalidCompany", "company") (fun _ _ vs ds => vs = [.int k, v] ∧ ds = [.int k, dv]) (by decide) (fun Q' hq => ⟨by repeat' (first | exact trivial | refine ⟨?_, ?_⟩), fun v5 H12 s12 d5 => ?_⟩) (fun _ => ⟨rfl, rfl⟩) (fun _ _ _ h => ⟨_, rfl, h⟩) (fun _ _ _ _ _ h => ⟨_, rfl, _, rfl, h _ _ _ (Same.refl _) ⟨rfl, rfl⟩⟩)
        (fun j' H' vs ds hj' s' r => ?_) (dt.same s11) (show_nice nv) (by decide) (fun p H12 s12 np hp => ?_)
      · obtain ⟨a5, x5, rfl, ha5, hx5⟩ := dt_list d5
        refine hq a5 H12 s12 ?_
        rw [newH_le _ _ ha5, vals_of (ns := [1, 2]) hx5]
        rfl
      · obtain ⟨rfl, rfl⟩ := r
        have d2 := (dt.same s11).same s'
        exact ⟨(by show 2 ≤ 10; decide), .cons (.int k) (.cons d2 .nil), show2 nk nv, bad2 (by simp at hj'; omega) (.int k) d2 kr fun e => by subst e; simp at hj'⟩
      refine ⟨f, p, _, _, rfl, rfl, s12 _ _ due, hp, (by rw [sizeLine_eq, List.length_replicate, List.length_map, List.length_range]; show m + 2 ≤ _; omega), fun p2 hp2 => ?_⟩
      rw [due_cat]
      obtain ⟨H13, e13, s13, f13⟩ := gen H12 hp2 (.lst (List.replicate (m + [1, 2].length) (.bl true)))
      rw [e13]
      clear e13
      have s1113 := s12.trans s13
      have dt13 := (dt.same s11).same s1113
      refine ⟨_, rfl, ?_⟩
      refine ref_rng (n := 9) (v := v) (dv := dv) ("InvalidCompany", "company") (fun _ _ vs ds => vs = [.int k, v, .non] ∧ ds = [.int k, dv, .none]) (by decide) (fun _ => ⟨rfl, rfl⟩) (fun _ _ _ h => ⟨_, rfl, h⟩) (fun _ _ _ _ _ h => ⟨_, rfl, _, rfl, h _ _ _ (Same.refl _) ⟨rfl, rfl⟩⟩)
        (fun j' H' vs ds hj' s' r => ?_) dt13 (show_nice nv) (by decide) (fun p3 H14 s14 np3 hp3 => ?_)
      · obtain ⟨rfl, rfl⟩ := r
        have d2 := dt13.same s'
        exact ⟨(by show 3 ≤ 10; decide), .cons (.int k) (.cons d2 (.cons .non .nil)), show3 nk nv nice_non, bad3 hj' (.int k) d2 .non kr⟩
      refine ⟨p2, p3, _, _, rfl, rfl, s14 _ _ f13, hp3, (by rw [sizeLine_eq, List.length_replicate, List.length_map, List.length_range]; show m + 2 + 9 ≤ _; omega), fun p4 hp4 => ?_⟩
      rw [due_cat]
      obtain ⟨H15, e15, s15, f15⟩ := gen H14 hp4 (.lst (List.replicate (m + [1, 2].length + 9) (.bl true)))
      rw [e15]
      clear e15
      have s1115 := s1113.trans (s14.trans s15)
      have dt15 := (dt.same s11).same s1115
      have s015 := s011.trans s1115
      refine ⟨_, rfl, .inl ⟨rfl, _, SqL.of f15⟩, ?_⟩
      refine ref_call (d := 4) (v := v) (dv := dv) ("InvalidCompany", "company") (fun _ vs ds => vs = [.int k, .ref c, v] ∧ ds = [.int k, tabP kss, dv]) (fun _ _ h => h) (fun _ _ h => ⟨_, rfl, h⟩) (fun _ h => ⟨_, rfl, _, rfl, _, rfl, h _ _ _ (Same.refl _) ⟨rfl, rfl⟩⟩) (fun H' vs ds s' r => ?_) dt15 (show_nice nv) (by decide) (fun H16 s16 => ?_)
      · obtain ⟨rfl, rfl⟩ := r
        have t' := (t.same s015).same s'
        have d3 := dt15.same s'
        exact ⟨(by show 3 ≤ 10; decide), .cons (.int k) (.cons t'.dt (.cons d3 .nil)), show3 nk nc nv, fun H'' E s'' r => .inr ⟨by decide, ⟨_, _, _, rfl⟩, ⟨_, _, _, _, _, _, rfl, .int k, (t'.same s'').dt, d3.same s'', .inr ⟨k, c, rs, kss, ⟨rfl, rfl, rfl, k2, k9, t'.same s'', fine, by omega, n40⟩, .inl ⟨bad, r⟩⟩⟩⟩⟩
      have due16 := s16 _ _ f15
      refine ⟨p4, _, _, rfl, rfl, due16, (by rw [sizeLine_eq, List.length_replicate]; show m + 2 + 9 < _; omega), p4, _, _, m + 12, rfl, fun b o e => ?_, ?_, by omega, (s011.trans (s1113.trans s14)).free hp4⟩
      · rw [upd_ne (ne_of_none ((s1113.trans s14) _ _ (s11 _ _ e)) hp4)]
        exact s16 _ _ (s1115 _ _ (s11 _ _ e))
      · unfold GL.Due
        rw [upd_same, ← List.replicate_succ']
        rfl
    · rintro σ H11 ⟨f, y, z, m, rfl, s11, due, mi, nf⟩
      have s011 := s010.trans s11
      rw [lall] at mi
      refine ⟨_, rfl, by repeat' (first | exact trivial | refine ⟨?_, ?_⟩), fun v12 H12 s12 dv12 => ?_⟩
      obtain ⟨a12, x12, rfl, ha12, hx12⟩ := dt_list dv12
      replace ha12 := newH_le _ _ ha12
      obtain rfl := vals_of (ns := [0]) hx12
      have t12 := t.same (s011.trans s12)
      refine ⟨_, rfl, c, _, rfl, .inl (SqL.of t12.top), a12, _, _, rfl, rfl, ha12, by rw [List.length_map]; omega, by rw [List.length_map]; omega, ?_, fun a13 na13 => ?_⟩
      · rw [sizeLine_eq, List.length_map, List.length_map, Int.toNat_natCast]
        show 1 * _ ≤ _
        omega
      obtain ⟨H13, e13, s13, f13⟩ := gen H12 na13 (.lst ((List.replicate kss.length (0 : Int)).map V.int))
      have er : (List.replicate ((rs.map V.ref).length : Int).toNat ([0].map V.int)).flatten = (List.replicate kss.length (0 : Int)).map V.int := by
        rw [List.length_map, lr, Int.toNat_natCast]
        exact rep_one kss.length 0
      rw [er, e13]
      clear e13 er
      refine ⟨one_le, fun a14 na14 => ?_⟩
      obtain ⟨H14, e14, s14, f14⟩ := gen H13 na14 (.lst [.ref a13])
      rw [e14]
      clear e14
      have t14 := t12.same (s13.trans s14)
      refine ⟨c, a14, _, _, rfl, rfl, t14.top, f14, (by rw [sizeLine_eq, List.length_map, List.length_singleton]; omega), fun a15 na15 => ?_⟩
      obtain ⟨H15, e15, s15, f15⟩ := gen H14 na15 (.lst ((rs ++ [a13]).map V.ref))
      have er : rs.map V.ref ++ [V.ref a13] = (rs ++ [a13]).map V.ref := by rw [List.map_append]; rfl
      rw [er, e15]
      clear e15 er
      have s1115 := s12.trans (s13.trans (s14.trans s15))
      have t15 := t14.same s15
      have fL : Fine k (kss ++ [List.replicate kss.length 0]) := fine.push (by rw [List.length_replicate]) fun z hz => by
        rw [List.mem_replicate] at hz
        omega
      have lL : (kss ++ [List.replicate kss.length (0 : Int)]).length = kss.length + 1 := by rw [List.length_append]; rfl
      have tL : Tab H15 a15 (rs ++ [a13]) (kss ++ [List.replicate kss.length 0]) := by
        refine ⟨f15, by rw [List.length_append, lr, lL]; rfl, fun i r ks h1 h2 => ?_, ?_⟩
        · by_cases il : i < kss.length
          · rw [List.getElem?_append_left (by omega)] at h1
            rw [List.getElem?_append_left il] at h2
            exact t15.row i r ks h1 h2
          · have ie : i = kss.length := by
              have := (List.getElem?_eq_some_iff.mp h2).1
              omega
            subst ie
            rw [List.getElem?_append_right (by omega), lr, Nat.sub_self] at h1
            rw [List.getElem?_append_right (Nat.le_refl _), Nat.sub_self] at h2
            cases h1
            cases h2
            exact (s14.trans s15) _ _ f13
        · refine List.nodup_append.mpr ⟨t.nd, by simp, fun x hx y hy => ?_⟩
          rw [List.mem_singleton] at hy
          subst hy
          rintro rfl
          obtain ⟨i, hi⟩ := List.getElem?_of_mem hx
          have il := (List.getElem?_eq_some_iff.mp hi).1
          obtain ⟨r, ks, h1, h2, h3⟩ := t12.at (i := i) (by omega)
          rw [hi] at h1
          cases h1
          rw [na13] at h3
          cases h3
      have nL : Nice 2 (tabP (kss ++ [List.replicate kss.length 0])) := nice_tab2 fL k9 (by omega)
      have nk : Nice 2 (.int k) := nice_int (by omega) (by omega)
      have due15 := s1115 _ _ due
      refine ⟨_, rfl, .inl ⟨rfl, _, SqL.of due15⟩, ?_⟩
      refine ref_call (d := 4) (v := .ref a15) (dv := tabP (kss ++ [List.replicate kss.length 0])) ("Unlike", "unlike") (fun _ vs ds => vs = [.int k, .ref c, .ref a15] ∧ ds = [.int k, tabP kss, tabP (kss ++ [List.replicate kss.length 0])]) (fun _ _ h => h) (fun _ _ h => ⟨_, rfl, h⟩) (fun _ h => ⟨_, rfl, _, rfl, _, rfl, h _ _ _ (Same.refl _) ⟨rfl, rfl⟩⟩) (fun H' vs ds s' r => ?_) tL.dt (show_nice nL) (by decide) (fun H16 s16 => ?_)
      · obtain ⟨rfl, rfl⟩ := r
        have t' := t15.same s'
        have t2 := tL.same s'
        refine ⟨(by show 3 ≤ 10; decide), .cons (.int k) (.cons t'.dt (.cons t2.dt .nil)), show3 nk nc nL, fun H'' E s'' r => .inr ⟨by decide, ⟨_, _, _, rfl⟩, ⟨_, _, _, _, _, _, rfl, .int k, (t'.same s'').dt, (t2.same s'').dt, .inr ⟨k, c, rs, kss, ⟨rfl, rfl, rfl, k2, k9, t'.same s'', fine, by omega, n40⟩, .inr ⟨fL.comp (by omega) (by omega), fun es ee => ?_, r⟩⟩⟩⟩⟩
        cases ee
        rw [List.length_map, lL]
        omega
      have due16 := s16 _ _ due15
      refine ⟨f, _, _, rfl, rfl, due16, (by rw [sizeLine_eq, List.length_replicate]; omega), ?_⟩
      have fa : ∀ {b : Addr} {o : HO}, H b = some o → b ≠ f := fun e z => by
        rw [z, nf] at e
        cases e
      have nrs : f ∉ rs := fun hx => by
        obtain ⟨i, hi⟩ := List.getElem?_of_mem hx
        have il := (List.getElem?_eq_some_iff.mp hi).1
        obtain ⟨r, ks, h1, h2, h3⟩ := t.at (i := i) (by omega)
        rw [hi] at h1
        cases h1
        exact fa h3 rfl
      have nfL : f ∉ rs ++ [a13] := fun hx => by
        rcases List.mem_append.mp hx with hx | hx
        · exact nrs hx
        · rw [List.mem_singleton] at hx
          have z := s12 _ _ due
          rw [hx, na13] at z
          cases z
      have f15' : a15 ≠ f := fun z => by
        have z2 := (s12.trans (s13.trans s14)) _ _ due
        rw [← z, na15] at z2
        cases z2
      obtain ⟨H17, e17⟩ : ∃ H17, upd H16 f (.lst (List.replicate m (V.bl true) ++ [V.bl true])) = H17 := ⟨_, rfl⟩
      have b17 : But f H16 H17 := by
        rw [← e17]
        exact But.put
      have due17 : H17 f = some (.lst (List.replicate (m + 1) (V.bl true))) := by
        rw [← e17, upd_same, ← List.replicate_succ']
      rw [e17]
      clear e17
      have t17 : Tab H17 c rs kss := ((t15.same s16).but b17 (fa t.top) nrs)
      have tL17 : Tab H17 a15 (rs ++ [a13]) (kss ++ [List.replicate kss.length 0]) := (tL.same s16).but b17 f15' nfL
      have s017 : Same H H17 := fun b o e => b17 b o (s16 _ _ (s1115 _ _ (s011 _ _ e))) (fa e)
      refine ⟨_, rfl, ?_⟩
      refine ref_call (d := 4) (v := .ref c) (dv := tabP kss) ("Unlike", "unlike") (fun _ vs ds => vs = [.int k, .ref a15, .ref c] ∧ ds = [.int k, tabP (kss ++ [List.replicate kss.length 0]), tabP kss]) (fun _ _ h => h) (fun _ _ h => ⟨_, rfl, h⟩) (fun _ h => ⟨_, rfl, _, rfl, _, rfl, h _ _ _ (Same.refl _) ⟨rfl, rfl⟩⟩) (fun H' vs ds s' r => ?_) t17.dt (show_nice nc) (by decide) (fun H18 s18 => ?_)
      · obtain ⟨rfl, rfl⟩ := r
        have t' := t17.same s'
        have t2 := tL17.same s'
        refine ⟨(by show 3 ≤ 10; decide), .cons (.int k) (.cons t2.dt (.cons t'.dt .nil)), show3 nk nL nc, fun H'' E s'' r => .inr ⟨by decide, ⟨_, _, _, rfl⟩, ⟨_, _, _, _, _, _, rfl, .int k, (t2.same s'').dt, (t'.same s'').dt, .inr ⟨k, a15, _, _, ⟨rfl, rfl, rfl, k2, k9, t2.same s'', fL, by omega, by omega⟩, .inr ⟨fine.comp (by omega) n40, fun es ee => ?_, r⟩⟩⟩⟩⟩
        cases ee
        rw [List.length_map, lL]
        omega
      refine ⟨one_le, fun p hp => ?_⟩
      obtain ⟨H19, e19, s19, f19⟩ := gen H18 hp (.lst [.bl true])
      rw [e19]
      clear e19
      refine ⟨f, p, _, _, rfl, rfl, (s18.trans s19) _ _ due17, f19, (by rw [sizeLine_eq, List.length_replicate, List.length_singleton]; omega), fun p2 hp2 => ?_⟩
      have s019 := s017.trans (s18.trans s19)
      refine q p2 (m + 2) _ (s019.trans (same_new hp2)) (s019.free hp2) ?_ (by omega)
      unfold GL.Due
      rw [upd_same, ← List.replicate_succ']
end
end K05

namespace GL
open PySem PySem.Spec PyProof.Rows L2
def rTupL (K : PySem.W.Frag) : List V → Hp → VK → Prop := fun xs H Q => ∃ p ys, xs = [.ref p] ∧ SqL K H p ys ∧ ∀ l, H l = none → Q (.ref l) (upd H l (.tup ys))
theorem call_tupL {X : Cx} : CallR X (.type "tuple") (rTupL X.K) := fun pins s σ H xs us Q I r ⟨p, ys, e, a, b⟩ => call_tuple_of pins s σ H xs us Q I r ⟨p, ys, e, .inl ⟨a, b⟩⟩
theorem dts_nat {K : PySem.W.Frag} {H : Hp} : ∀ l : List Nat, Dts K H (natV l) ((nums l).map PyData.int)
  | [] => .nil
  | a :: l => .cons (.int _) (dts_nat l)
theorem cut_two {n : Nat} (h2 : 2 ≤ n) (h6 : n ≤ 6) : cutV (natV (List.range n)) (some 2) none = natV ((List.range n).drop 2) := by
  obtain rfl | rfl | rfl | rfl | rfl : n = 2 ∨ n = 3 ∨ n = 4 ∨ n = 5 ∨ n = 6 := by omega
  all_goals rfl
theorem cut_last {n : Nat} (h2 : 2 ≤ n) (h6 : n ≤ 6) : cutV (natV (List.range n)) none (some (0 - 1)) = natV (List.range (n - 1)) := by
  obtain rfl | rfl | rfl | rfl | rfl : n = 2 ∨ n = 3 ∨ n = 4 ∨ n = 5 ∨ n = 6 := by omega
  all_goals rfl
theorem cut_first {n : Nat} : cutV (natV (List.range n)) (some 1) none = natV ((List.range n).drop 1) := by
  rw [cut_one]
  unfold natV
  rw [List.map_drop]
/-- what is refused as an order of n people, short and nice -/
def OrdBad (n : Nat) (d : PyData) : Prop := orderD n d = false ∧ Nice 2 d ∧ ∀ ds, d = .list ds → ds.length ≤ 1000
theorem ord_bad {n : Nat} {ds : List PyData} {o : PyData} (ho : o ∈ ds) (hb : below n o = false) (l : ds.length ≤ 50) (hn : ∀ e ∈ ds, Nice 1 e) : OrdBad n (.list ds) := by
  refine ⟨?_, Nice.list l hn, fun ds' e => by cases e; omega⟩
  show (ds.all (below n) && _) = false
  have : ds.all (below n) = false := by
    rw [List.all_eq_false]
    exact ⟨o, ho, by rw [hb]; decide⟩
  rw [this, Bool.false_and]
theorem nice_nums {l : List Nat} (b : ∀ j ∈ l, j < 100) : ∀ e ∈ (nums l).map PyData.int, Nice 1 e := by
  intro e he
  obtain ⟨z, hz, rfl⟩ := List.mem_map.mp he
  unfold nums at hz
  obtain ⟨j, hj, rfl⟩ := List.mem_map.mp hz
  have := b j hj
  refine Nice.leaf ?_
  show ((j : Nat) : Int).natAbs < 2 ^ 100
  omega
/-- the rows of a company, wherever its list is -/
structure Rws (H : Hp) (rs : List Addr) (kss : List (List Int)) : Prop where
  len : rs.length = kss.length
  row : ∀ (i : Nat) (r : Addr) (ks : List Int), rs[i]? = some r → kss[i]? = some ks → H r = some (.lst (ks.map V.int))
  nd : rs.Nodup
theorem Rws.more {H H' : Hp} {rs : List Addr} {kss : List (List Int)} {a : Addr} {ks : List Int} (t : Rws H rs kss) (s : Same H H') (na : H a = none) (fa : H' a = some (.lst (ks.map V.int))) : Rws H' (rs ++ [a]) (kss ++ [ks]) := by
  refine ⟨by rw [List.length_append, List.length_append, t.len]; rfl, fun i r ks' h1 h2 => ?_, ?_⟩
  · by_cases il : i < kss.length
    · rw [List.getElem?_append_left (by rw [t.len]; exact il)] at h1
      rw [List.getElem?_append_left il] at h2
      exact s _ _ (t.row i r ks' h1 h2)
    · have ie : i = kss.length := by
        have := (List.getElem?_eq_some_iff.mp h2).1
        rw [List.length_append, List.length_singleton] at this
        omega
      subst ie
      rw [List.getElem?_append_right (by rw [t.len]; exact Nat.le_refl _), t.len, Nat.sub_self] at h1
      rw [List.getElem?_append_right (Nat.le_refl _), Nat.sub_self] at h2
      cases h1
      cases h2
      exact fa
  · refine List.nodup_append.mpr ⟨t.nd, by simp, fun x hx y hy => ?_⟩
    rw [List.mem_singleton] at hy
    subst hy
    rintro rfl
    obtain ⟨i, hi⟩ := List.getElem?_of_mem hx
    have il := (List.getElem?_eq_some_iff.mp hi).1
    rw [t.len] at il
    have h3 := t.row i x _ hi (List.getElem?_eq_getElem il)
    rw [na] at h3
    cases h3
theorem Tab.rws {H : Hp} {c : Addr} {rs : List Addr} {kss : List (List Int)} (t : Tab H c rs kss) : Rws H rs kss := ⟨t.len, t.row, t.nd⟩
theorem Rws.tab {H H' : Hp} {c : Addr} {rs : List Addr} {kss : List (List Int)} (t : Rws H rs kss) (s : Same H H') (h : H' c = some (.lst (rs.map V.ref))) : Tab H' c rs kss := ⟨h, t.len, fun i r ks a b => s _ _ (t.row i r ks a b), t.nd⟩
theorem fine_zero {k : Int} {kss : List (List Int)} (f : Fine k kss) (k1 : 0 < k) {n : Nat} (h : n = kss.length) : Fine k (kss ++ [List.replicate n 0]) := f.push (by rw [List.length_replicate]; exact h) fun z hz => by
  rw [List.mem_replicate] at hz
  omega
section
variable {K : PySem.W.Frag} {er : Str → Addr} {H : Hp} {k : Int} {c : Addr} {rs : List Addr} {kss : List (List Int)} {z : V} {dz : PyData}
theorem ref_cou {j : Nat} (hj : j < 2) (g : GoodC H (.int k) (.ref c) (.int k) k c rs kss) (d : Dt K H z dz) (b : cplD kss.length dz = false) : Refd K er j [.int k, .ref c, z] H "InvalidCouple" z := by
  intro H' E s r
  have g' := g.later s
  refine .inr ⟨by omega, ⟨_, _, _, rfl⟩, ?_⟩
  obtain rfl | rfl : j = 0 ∨ j = 1 := by omega
  · exact ⟨_, _, _, _, _, _, rfl, .int k, g'.t.dt, d.same s, .inr ⟨k, c, rs, kss, g', b, r⟩⟩
  · exact ⟨_, _, _, _, _, _, rfl, .int k, g'.t.dt, d.same s, .inr ⟨k, c, rs, kss, g', b, r⟩⟩
theorem ref_lot (g : GoodC H (.int k) (.ref c) (.int k) k c rs kss) (d : Dt K H z dz) (b : lotD kss.length dz = false) : Refd K er 2 [.int k, .ref c, z] H "InvalidLot" z := by
  intro H' E s r
  have g' := g.later s
  exact .inr ⟨by decide, ⟨_, _, _, rfl⟩, ⟨_, _, _, _, _, _, rfl, .int k, g'.t.dt, d.same s, .inr ⟨k, c, rs, kss, g', b, r⟩⟩⟩
theorem ref_ord (g : GoodC H (.int k) (.ref c) (.int k) k c rs kss) (d : Dt K H z dz) (b : OrdBad kss.length dz) : Refd K er 3 [.int k, .ref c, z] H "InvalidLot" z := by
  intro H' E s r
  have g' := g.later s
  exact .inr ⟨by decide, ⟨_, _, _, rfl⟩, ⟨_, _, _, _, _, _, rfl, .int k, g'.t.dt, d.same s, .inr ⟨k, c, rs, kss, g', ⟨b.1, b.2.2⟩, r⟩⟩⟩
theorem ref_done (g : GoodC H (.int k) (.ref c) (.int k) k c rs kss) (d : Dt K H z dz) (b : deedB k kss dz = false) : Refd K er 6 [.int k, .ref c, z] H "InvalidDeed" z := by
  intro H' E s r
  have g' := g.later s
  exact .inr ⟨by decide, ⟨_, _, _, rfl⟩, ⟨_, _, _, _, _, _, rfl, .int k, g'.t.dt, d.same s, .inr ⟨k, c, rs, kss, g', b, r⟩⟩⟩
theorem ref_road (g : GoodC H (.int k) (.ref c) (.int k) k c rs kss) (d : Dt K H z dz) (b : isList dz = false) : Refd K er 7 [.int k, .ref c, z] H "InvalidDeed" z := by
  intro H' E s r
  have g' := g.later s
  exact .inr ⟨by decide, ⟨_, _, _, rfl⟩, ⟨_, _, _, _, _, _, rfl, .int k, g'.t.dt, d.same s, .inr ⟨k, c, rs, kss, g', .inl ⟨b, r⟩⟩⟩⟩
/-- a road whose first item that can't be done is v -/
theorem ref_item {a : Addr} {xs : List V} {ds : List PyData} {v : V} (g : GoodC H (.int k) (.ref c) (.int k) k c rs kss) (ha : H a = some (.lst xs)) (d : Dts K H xs ds) (l : ds.length ≤ 1000) (b : (followK k kss ds 0).2 < ds.length) (hv : xs[(followK k kss ds 0).2]? = some v) :
    Refd K er 7 [.int k, .ref c, .ref a] H "InvalidDeed" v := by
  intro H' E s r
  have g' := g.later s
  exact .inr ⟨by decide, ⟨_, _, _, rfl⟩, ⟨_, _, _, _, _, _, rfl, .int k, g'.t.dt, .lst (s _ _ ha) (Dts.same s _ _ d), .inr ⟨k, c, rs, kss, g', .inr ⟨a, xs, ds, v, rfl, rfl, s _ _ ha, l, b, hv, r⟩⟩⟩⟩
/-- [refused(d, [..], word, v) for v in xs] -/
theorem ref_over {ta : TA} {tl : TE} {td : TE} {σ : L2.St} {Q : VK} {q0 : Nat} {d : Nat} {ds : List PyData} (w : Str × Str) (R : Hp → V → PyData → List V → List PyData → Prop) (n9 : ds.length ≤ 1000)
    (hl : ∀ Q' : VK, (∀ l xs H', Same H H' → H' l = some (.lst xs) → Dts K H' xs ds → Q' (.ref l) H') → tl σ H Q')
    (hk : ∀ v : V, wipe ((wipe σ [q0]).set q0 (some v)) [q0] = wipe σ [q0] ∧ ((wipe σ [q0]).set q0 (some v))[q0]? = some (some v))
    (hd : ∀ (v : V) H' (Q' : VK), Q' (.int (d : Nat)) H' → td ((wipe σ [q0]).set q0 (some v)) H' Q')
    (ha : ∀ (v : V) (dv : PyData) (H2 : Hp) (Q' : List V → Hp → Prop), Same H H2 → (∀ H' vs es, Same H2 H' → R H' v dv vs es → Q' vs H') → ta ((wipe σ [q0]).set q0 (some v)) H2 Q')
    (hr : ∀ (v : V) (dv : PyData) H' vs es, dv ∈ ds → Same H H' → Dt K H' v dv → R H' v dv vs es → vs.length ≤ 10 ∧ Dts K H' vs es ∧ ShowOk (.list es) ∧ Refd K er d vs H' w.1 v)
    (sv : ∀ dv ∈ ds, ShowOk dv) (cm : w ∈ sixW) (q : ∀ p H', Same H H' → H p = none → H' p = some (.lst ((List.range ds.length).map fun _ => V.bl true)) → Q (.ref p) H') :
    tLc (iList K tl) (gName q0) tYes (tCall (spRefused K er) [] E0 (tCons td (tCons (tLst ta) (tCons (tC (.str w.2)) (tCons (tVar q0) tNil))))) [q0] σ H Q := by
  refine hl _ fun l xs H1 s1 f1 dts => ⟨l, rfl, ⟨_, SqL.of f1⟩, fun D hD => ?_⟩
  refine lc_vals (walk_list (K := K) (a := l) (xs := xs)) (fun _ => V.bl true) hD (by rw [sizeLine_eq, dts.length]; omega) (fun H' s' => SqL.of (s' _ _ f1)) ?_ ?_
  · rintro i x H2 H3 N hj s2 ⟨rfl, ex⟩ hN
    obtain ⟨dv, ev, dt⟩ := dts.get ex
    have dm := List.mem_of_getElem? ev
    refine gName_by ⟨(hk _).1, ?_⟩
    have s02 := s1.trans s2
    exact ref_call (d := d) (v := x) (dv := dv) w (fun H' vs es => R H' x dv vs es ∧ Dt K H' x dv) (hd x) (fun H' Q' h => ⟨_, (hk _).2, h⟩) (fun Q' h => ha x dv _ Q' s02 fun H' vs es s' r => h H' vs es s' ⟨r, (dt.same s2).same s'⟩)
      (fun H' vs es s' r => hr x dv H' vs es dm (s02.trans s') r.2 r.1) (dt.same s2) (sv dv dm) cm fun H' s' => hN H' s'
  · exact fun H' s' h' => q D H' (s1.trans s') (s1.free hD) (by rw [dts.length] at h'; exact h')
end
end GL

namespace K05
open PySem PySem.Spec PyProof.Rows
open L2
open GL
abbrev spRest := spHeads
def couB (n : Int) : List PyData := [.none, .tuple [], .tuple [.int 0], .tuple [.int 0, .int 1, .int 2], .list [.int 0, .int 1], .tuple [.int 1, .int 0], .tuple [.int 0, .int 0], .tuple [.int 0, .int n], .tuple [.int (0 - 1), .int 1], .tuple [.bool true, .int 2], .tuple [.int 0, .bool true], .dict [], .int 7]
def lotB (n : Int) : List PyData := [.none, .tuple [], .tuple [.int 0], .list [.int 0, .int 0], .list [.int n], .list [.int (0 - 1)], .list [.bool true], .list [.str "0"], .list [.none], .list [.list [.int 0]], .dict [], .int 7, .str "0", .list [.int 0, .int n]]
def lot3 : List PyData := [.list [], .list [.int 1, .int 0], .list [.int 0, .int 1, .int 1]]
def oddB : List PyData := [.list [.int 0, .bool true, .int 2], .list [.int 0, .none, .int 2], .list [.int 0, .str "1", .int 2], .list [.int 0, .list [.int 1], .int 2], .list [.int 0, .int 0, .int 2], .list [.int 1, .int 0, .int 2], .list [.int 0, .bool true], .list [.bool false, .int 1]]
def ordBadB (n : Nat) (d : PyData) : Bool := !orderD n d && (niceB 2 d && (match d with | .list ds => decide (ds.length ≤ 1000) | _ => true))
theorem ordBad_of {n : Nat} {d : PyData} (h : ordBadB n d = true) : OrdBad n d := by
  obtain ⟨h1, h2⟩ := Bool.and_eq_true_iff.mp h
  obtain ⟨h3, h4⟩ := Bool.and_eq_true_iff.mp h2
  exact ⟨by simpa using h1, nice_of h3, fun ds e => by subst e; exact of_decide_eq_true h4⟩
theorem cou_ok {n : Nat} (h2 : 2 ≤ n) (h6 : n ≤ 6) : ∀ d ∈ couB n ++ [PyData.tuple [.str "0", .int 1]], cplD n d = false ∧ Nice 2 d := by
  have h1 : (couB n ++ [PyData.tuple [.str "0", .int 1]]).all (fun d => !cplD n d && niceB 2 d) = true := by
    obtain rfl | rfl | rfl | rfl | rfl : n = 2 ∨ n = 3 ∨ n = 4 ∨ n = 5 ∨ n = 6 := by omega
    all_goals decide +kernel
  intro d hd
  obtain ⟨a, b⟩ := Bool.and_eq_true_iff.mp (List.all_eq_true.mp h1 d hd)
  exact ⟨by simpa using a, nice_of b⟩
theorem lot_ok {n : Nat} (h2 : 2 ≤ n) (h6 : n ≤ 6) : ∀ d ∈ lotB n, lotD n d = false ∧ OrdBad n d := by
  have h1 : (lotB n).all (fun d => !lotD n d && ordBadB n d) = true := by
    obtain rfl | rfl | rfl | rfl | rfl : n = 2 ∨ n = 3 ∨ n = 4 ∨ n = 5 ∨ n = 6 := by omega
    all_goals decide +kernel
  intro d hd
  obtain ⟨a, b⟩ := Bool.and_eq_true_iff.mp (List.all_eq_true.mp h1 d hd)
  exact ⟨by simpa using a, ordBad_of b⟩
theorem lot3_ok {n : Nat} : ∀ d ∈ lot3, lotD n d = false ∧ Nice 2 d := by
  intro d hd
  refine ⟨?_, nice_of (List.all_eq_true.mp (show lot3.all (niceB 2) = true by decide +kernel) d hd)⟩
  have e : ∀ ds, ((decide (1 ≤ ((ds : List PyData).length : Int)) && decide ((ds.length : Int) ≤ n)) && (ds.all (below n) && ascD ds)) = lotD n (.list ds) := fun _ => rfl
  unfold lot3 at hd
  simp only [List.mem_cons, List.not_mem_nil, or_false] at hd
  rcases hd with rfl | rfl | rfl
  · rfl
  · rw [← e, show ascD [.int 1, .int 0] = false from by decide, Bool.and_false, Bool.and_false]
  · rw [← e, show ascD [.int 0, .int 1, .int 1] = false from by decide, Bool.and_false, Bool.and_false]
theorem odd_ok {n : Nat} (h2 : 4 ≤ n) (h6 : n ≤ 8) : ∀ d ∈ oddB ++ [PyData.list [.int 0, .none]], lotD n d = false ∧ OrdBad n d := by
  have h1 : (oddB ++ [PyData.list [.int 0, .none]]).all (fun d => !lotD n d && ordBadB n d) = true := by
    obtain rfl | rfl | rfl | rfl | rfl : n = 4 ∨ n = 5 ∨ n = 6 ∨ n = 7 ∨ n = 8 := by omega
    all_goals decide +kernel
  intro d hd
  obtain ⟨a, b⟩ := Bool.and_eq_true_iff.mp (List.all_eq_true.mp h1 d hd)
  exact ⟨by simpa using a, ordBad_of b⟩
def odds : List PyData := [.none, .str "0", .list [.int 0], .tuple [.int 0], .dict [], .int (0 - 1), .int (10 ^ (29 : Int).toNat)]
theorem odds_ok {n : Nat} (h6 : n ≤ 6) : ∀ d ∈ odds, below n d = false ∧ Nice 1 d := by
  have h1 : odds.all (fun d => !below n d && niceB 1 d) = true := by
    obtain rfl | rfl | rfl | rfl | rfl | rfl | rfl : n = 0 ∨ n = 1 ∨ n = 2 ∨ n = 3 ∨ n = 4 ∨ n = 5 ∨ n = 6 := by omega
    all_goals decide +kernel
  intro d hd
  obtain ⟨a, b⟩ := Bool.and_eq_true_iff.mp (List.all_eq_true.mp h1 d hd)
  exact ⟨by simpa using a, nice_of b⟩
def natD (l : List Nat) : List PyData := (nums l).map PyData.int
def ordZ (n : Nat) : List PyData := [.list [], .list (natD ((List.range n).drop 1)), .list (natD (List.range n ++ [0])), .list (natD ((List.range n).drop 1 ++ [n])), .tuple (natD (List.range n)), .list (natD (List.range (n - 1) ++ [0]))]
theorem ordZ_ok {n : Nat} (h2 : 2 ≤ n) (h6 : n ≤ 6) : ∀ d ∈ ordZ n, OrdBad n d := by
  have h1 : (ordZ n).all (ordBadB n) = true := by
    obtain rfl | rfl | rfl | rfl | rfl : n = 2 ∨ n = 3 ∨ n = 4 ∨ n = 5 ∨ n = 6 := by omega
    all_goals decide +kernel
  exact fun d hd => ordBad_of (List.all_eq_true.mp h1 d hd)
section
variable {P : Program} {w : World} {K : PySem.W.Frag} {mg : Str → Option Value} {base : Heap}
variable {er : Str → Addr}
abbrev sRest : Stmt := topS 64
abbrev nRest : List Str := ["_law_kinds", "_law_company_here", "_law_due", "_law_many", "_law_wrong", "_law_bad", "_law_door", "_law_longer", "_law_odd", "_law_order_here"]
theorem scRest : FnScope nRest ["_law_kinds", "_law_company_here"] (defScope sRest) := ⟨rfl, rfl, rfl, by decide +kernel, rfl, by decide +kernel, by decide +kernel⟩
theorem ok_rest {f : Addr} {fd : FuncData} (F : Fun K "_law_rest_refused" "_law_rest_refused" sRest f fd) (T : Bi mg) (ULrefused : UseG P w K mg base "_law_refused" ["_law_door", "_law_args", "_law_name", "_law_field"] (spRefused K er) 9) : FnG P w K mg base CX0 10 f fd ["_law_kinds", "_law_company_here"] (spRest K er) := by
  refine FnG.mk' F scRest (fun vs H Q E h => ?_) (fun cdv A outer s H vs Q E hgd hr h => ?_)
  · obtain ⟨k, c, rs, kss, rfl, _⟩ := h
    rfl
  · obtain ⟨k, c, rs, kss, rfl, k2, k9, t, fine, m2, m6, q⟩ := h
    have hgd' : (A.deeper (envOfC "_law_rest_refused" (defScope sRest) s.heap.objs.size f cdv)).guards = some [] := hgd
    refine ⟨_, (pss_cons (ps_par (i := 2) (j := 3) rfl scRest.nd rfl rfl (by decide) rfl rfl (pa_cons (pe_lst pa_nil) (pa_cons (pe_callB call_len_seq (by rfl) T.len PySem.boot_len (pa_cons (pv 1) pa_nil)) pa_nil)) (by rfl))
      (pss_cons (ps_set (i := 4) scRest.nd rfl (Or.inl rfl) (pd_list (pds_cons (pd_non pe_non) (pds_cons (pd_tup pds_nil (fun _ => by show 0 ≤ sizeLine; decide)) (pds_cons (pd_tup (pds_cons (pd_int pe_int) pds_nil) (fun _ => by show 1 ≤ sizeLine; decide)) (pds_cons (pd_tup (pds_cons (pd_int pe_int) (pds_cons (pd_int pe_int) (pds_cons (pd_int pe_int) pds_nil))) (fun _ => by show 3 ≤ sizeLine; decide)) (pds_cons (pd_list (pds_cons (pd_int pe_int) (pds_cons (pd_int pe_int) pds_nil)) (fun _ => by show 2 ≤ sizeLine; decide)) (pds_cons (pd_tup (pds_cons (pd_int pe_int) (pds_cons (pd_int pe_int) pds_nil)) (fun _ => by show 2 ≤ sizeLine; decide)) (pds_cons (pd_tup (pds_cons (pd_int pe_int) (pds_cons (pd_int pe_int) pds_nil)) (fun _ => by show 2 ≤ sizeLine; decide)) (pds_cons (pd_tup (pds_cons (pd_int pe_int) (pds_cons (pd_var (pv 3)) pds_nil)) (fun _ => by show 2 ≤ sizeLine; decide)) (pds_cons (pd_tup (pds_cons (pd_sub (pe_op op_sub pe_int pe_int)) (pds_cons (pd_int pe_int) pds_nil)) (fun _ => by show 2 ≤ sizeLine; decide)) (pds_cons (pd_tup (pds_cons (pd_bl pe_bl) (pds_cons (pd_int pe_int) pds_nil)) (fun _ => by show 2 ≤ sizeLine; decide)) (pds_cons (pd_tup (pds_cons (pd_int pe_int) (pds_cons (pd_bl pe_bl) pds_nil)) (fun _ => by show 2 ≤ sizeLine; decide)) (pds_cons (pd_dct pe_dnewK) (pds_cons (pd_int pe_int) pds_nil))))))))))))) (fun _ => by show 13 ≤ sizeLine; decide)))
      (pss_cons (ps_for PassesOwn.never rfl (pi_list (pe_op op_cat (pv 4) (pd_list (pds_cons (pd_tup (pds_cons (pd_str pe_str) (pds_cons (pd_int pe_int) pds_nil)) (fun _ => by show 2 ≤ sizeLine; decide)) pds_nil) (fun _ => by show 1 ≤ sizeLine; decide)))) (pg_name (i := 5) scRest.nd rfl (Or.inr rfl))
        (pss_one (ps_set (i := 2) scRest.nd rfl (Or.inl rfl) (pe_op op_cat (pv 2) (pe_lc (own := [("_law_door", 6)]) (g := (gName 6)) (tt := tYes) (te := (tCall (spRefused K er) [] E0 (tCons (tVar 6) (tCons (tLst (tCons (tVar 0) (tCons (tVar 1) (tCons (tVar 5) tNil)))) (tCons (tC (.str "couple")) (tCons (tVar 5) tNil)))))) rfl scRest.nd (pi_list (pd_list (pds_cons (pd_int pe_int) (pds_cons (pd_int pe_int) pds_nil)) (fun _ => by show 2 ≤ sizeLine; decide)))
            (blkOk_by (N := nRest) (sc := (defScope sRest)) (by decide +kernel)) (fun _ _ _ _ _ => (pg_name (i := 6) scRest.nd rfl (Or.inl rfl))) (fun _ _ _ _ _ => by exact pts_nil)
            (fun _ _ _ _ _ => by exact (pe_useG ULrefused hgd' hr (by rfl) (pa_cons (pv 6) (pa_cons (pe_lst (pa_cons (pv 0) (pa_cons (pv 1) (pa_cons (pv 5) pa_nil)))) (pa_cons pe_str (pa_cons (pv 5) pa_nil)))))))))))
      (pss_cons (ps_for PassesOwn.never rfl (pi_list (pd_list (pds_cons (pd_non pe_non) (pds_cons (pd_tup pds_nil (fun _ => by show 0 ≤ sizeLine; decide)) (pds_cons (pd_tup (pds_cons (pd_int pe_int) pds_nil) (fun _ => by show 1 ≤ sizeLine; decide)) (pds_cons (pd_list (pds_cons (pd_int pe_int) (pds_cons (pd_int pe_int) pds_nil)) (fun _ => by show 2 ≤ sizeLine; decide)) (pds_cons (pd_list (pds_cons (pd_var (pv 3)) pds_nil) (fun _ => by show 1 ≤ sizeLine; decide)) (pds_cons (pd_list (pds_cons (pd_sub (pe_op op_sub pe_int pe_int)) pds_nil) (fun _ => by show 1 ≤ sizeLine; decide)) (pds_cons (pd_list (pds_cons (pd_bl pe_bl) pds_nil) (fun _ => by show 1 ≤ sizeLine; decide)) (pds_cons (pd_list (pds_cons (pd_str pe_str) pds_nil) (fun _ => by show 1 ≤ sizeLine; decide)) (pds_cons (pd_list (pds_cons (pd_non pe_non) pds_nil) (fun _ => by show 1 ≤ sizeLine; decide)) (pds_cons (pd_list (pds_cons (pd_list (pds_cons (pd_int pe_int) pds_nil) (fun _ => by show 1 ≤ sizeLine; decide)) pds_nil) (fun _ => by show 1 ≤ sizeLine; decide)) (pds_cons (pd_dct pe_dnewK) (pds_cons (pd_int pe_int) (pds_cons (pd_str pe_str) (pds_cons (pd_list (pds_cons (pd_int pe_int) (pds_cons (pd_var (pv 3)) pds_nil)) (fun _ => by show 2 ≤ sizeLine; decide)) pds_nil)))))))))))))) (fun _ => by show 14 ≤ sizeLine; decide))) (pg_name (i := 5) scRest.nd rfl (Or.inr rfl))
        (pss_one (ps_set (i := 2) scRest.nd rfl (Or.inl rfl) (pe_op op_cat (pv 2) (pe_lc (own := [("_law_door", 6)]) (g := (gName 6)) (tt := tYes) (te := (tCall (spRefused K er) [] E0 (tCons (tVar 6) (tCons (tLst (tCons (tVar 0) (tCons (tVar 1) (tCons (tVar 5) tNil)))) (tCons (tC (.str "lot")) (tCons (tVar 5) tNil)))))) rfl scRest.nd (pi_list (pd_list (pds_cons (pd_int pe_int) (pds_cons (pd_int pe_int) pds_nil)) (fun _ => by show 2 ≤ sizeLine; decide)))
            (blkOk_by (N := nRest) (sc := (defScope sRest)) (by decide +kernel)) (fun _ _ _ _ _ => (pg_name (i := 6) scRest.nd rfl (Or.inl rfl))) (fun _ _ _ _ _ => by exact pts_nil)
            (fun _ _ _ _ _ => by exact (pe_useG ULrefused hgd' hr (by rfl) (pa_cons (pv 6) (pa_cons (pe_lst (pa_cons (pv 0) (pa_cons (pv 1) (pa_cons (pv 5) pa_nil)))) (pa_cons pe_str (pa_cons (pv 5) pa_nil)))))))))))
      (pss_cons (ps_set (i := 2) scRest.nd rfl (Or.inl rfl) (pe_op op_cat (pv 2) (pe_lc (own := [("_law_bad", 5)]) (g := (gName 5)) (tt := tYes) (te := (tCall (spRefused K er) [] E0 (tCons (tC (.int 2)) (tCons (tLst (tCons (tVar 0) (tCons (tVar 1) (tCons (tVar 5) tNil)))) (tCons (tC (.str "lot")) (tCons (tVar 5) tNil)))))) rfl scRest.nd (pi_list (pd_list (pds_cons (pd_list pds_nil (fun _ => by show 0 ≤ sizeLine; decide)) (pds_cons (pd_list (pds_cons (pd_int pe_int) (pds_cons (pd_int pe_int) pds_nil)) (fun _ => by show 2 ≤ sizeLine; decide)) (pds_cons (pd_list (pds_cons (pd_int pe_int) (pds_cons (pd_int pe_int) (pds_cons (pd_int pe_int) pds_nil))) (fun _ => by show 3 ≤ sizeLine; decide)) pds_nil))) (fun _ => by show 3 ≤ sizeLine; decide)))
            (blkOk_by (N := nRest) (sc := (defScope sRest)) (by decide +kernel)) (fun _ _ _ _ _ => (pg_name (i := 5) scRest.nd rfl (Or.inl rfl))) (fun _ _ _ _ _ => by exact pts_nil)
            (fun _ _ _ _ _ => by exact (pe_useG ULrefused hgd' hr (by rfl) (pa_cons pe_int (pa_cons (pe_lst (pa_cons (pv 0) (pa_cons (pv 1) (pa_cons (pv 5) pa_nil)))) (pa_cons pe_str (pa_cons (pv 5) pa_nil)))))))))
      (pss_cons (ps_set (i := 7) scRest.nd rfl (Or.inr rfl) (pe_op op_cat (pv 1) (pe_lst (pa_cons (pe_op op_rep (pd_list (pds_cons (pd_int pe_int) pds_nil) (fun _ => by show 1 ≤ sizeLine; decide)) (pv 3)) (pa_cons (pe_op op_rep (pd_list (pds_cons (pd_int pe_int) pds_nil) (fun _ => by show 1 ≤ sizeLine; decide)) (pe_op op_add (pv 3) pe_int)) pa_nil)))))
      (pss_cons (ps_set (i := 8) scRest.nd rfl (Or.inl rfl) (pd_list (pds_cons (pd_list (pds_cons (pd_int pe_int) (pds_cons (pd_bl pe_bl) (pds_cons (pd_int pe_int) pds_nil))) (fun _ => by show 3 ≤ sizeLine; decide)) (pds_cons (pd_list (pds_cons (pd_int pe_int) (pds_cons (pd_non pe_non) (pds_cons (pd_int pe_int) pds_nil))) (fun _ => by show 3 ≤ sizeLine; decide)) (pds_cons (pd_list (pds_cons (pd_int pe_int) (pds_cons (pd_str pe_str) (pds_cons (pd_int pe_int) pds_nil))) (fun _ => by show 3 ≤ sizeLine; decide)) (pds_cons (pd_list (pds_cons (pd_int pe_int) (pds_cons (pd_list (pds_cons (pd_int pe_int) pds_nil) (fun _ => by show 1 ≤ sizeLine; decide)) (pds_cons (pd_int pe_int) pds_nil))) (fun _ => by show 3 ≤ sizeLine; decide)) (pds_cons (pd_list (pds_cons (pd_int pe_int) (pds_cons (pd_int pe_int) (pds_cons (pd_int pe_int) pds_nil))) (fun _ => by show 3 ≤ sizeLine; decide)) (pds_cons (pd_list (pds_cons (pd_int pe_int) (pds_cons (pd_int pe_int) (pds_cons (pd_int pe_int) pds_nil))) (fun _ => by show 3 ≤ sizeLine; decide)) (pds_cons (pd_list (pds_cons (pd_int pe_int) (pds_cons (pd_bl pe_bl) pds_nil)) (fun _ => by show 2 ≤ sizeLine; decide)) (pds_cons (pd_list (pds_cons (pd_bl pe_bl) (pds_cons (pd_int pe_int) pds_nil)) (fun _ => by show 2 ≤ sizeLine; decide)) pds_nil)))))))) (fun _ => by show 8 ≤ sizeLine; decide)))
      (pss_cons (ps_for PassesOwn.never rfl (pi_list (pe_op op_cat (pv 8) (pd_list (pds_cons (pd_list (pds_cons (pd_int pe_int) (pds_cons (pd_non pe_non) pds_nil)) (fun _ => by show 2 ≤ sizeLine; decide)) pds_nil) (fun _ => by show 1 ≤ sizeLine; decide)))) (pg_name (i := 5) scRest.nd rfl (Or.inr rfl))
        (pss_one (ps_set (i := 2) scRest.nd rfl (Or.inl rfl) (pe_op op_cat (pv 2) (pe_lc (own := [("_law_door", 6)]) (g := (gName 6)) (tt := tYes) (te := (tCall (spRefused K er) [] E0 (tCons (tVar 6) (tCons (tLst (tCons (tVar 0) (tCons (tVar 7) (tCons (tVar 5) tNil)))) (tCons (tC (.str "lot")) (tCons (tVar 5) tNil)))))) rfl scRest.nd (pi_list (pd_list (pds_cons (pd_int pe_int) (pds_cons (pd_int pe_int) pds_nil)) (fun _ => by show 2 ≤ sizeLine; decide)))
            (blkOk_by (N := nRest) (sc := (defScope sRest)) (by decide +kernel)) (fun _ _ _ _ _ => (pg_name (i := 6) scRest.nd rfl (Or.inl rfl))) (fun _ _ _ _ _ => by exact pts_nil)
            (fun _ _ _ _ _ => by exact (pe_useG ULrefused hgd' hr (by rfl) (pa_cons (pv 6) (pa_cons (pe_lst (pa_cons (pv 0) (pa_cons (pv 7) (pa_cons (pv 5) pa_nil)))) (pa_cons pe_str (pa_cons (pv 5) pa_nil)))))))))))
      (pss_cons (ps_par (i := 9) (j := 4) rfl scRest.nd rfl rfl (by decide) rfl rfl (pa_cons (pe_listRg rfl (by rfl) T.list (prg_1 (by rfl) T.range (pv 3))) (pa_cons (pe_lst pa_nil) pa_nil)) (by rfl))
      (pss_cons (ps_for PassesOwn.never rfl (pi_list (pd_list (pds_cons (pd_non pe_non) (pds_cons (pd_str pe_str) (pds_cons (pd_list (pds_cons (pd_int pe_int) pds_nil) (fun _ => by show 1 ≤ sizeLine; decide)) (pds_cons (pd_tup (pds_cons (pd_int pe_int) pds_nil) (fun _ => by show 1 ≤ sizeLine; decide)) (pds_cons (pd_dct pe_dnewK) (pds_cons (pd_sub (pe_op op_sub pe_int pe_int)) (pds_cons (pd_pow (pe_op op_pow pe_int pe_int) (by refine ⟨?_, ?_, ?_⟩ <;> decide)) pds_nil))))))) (fun _ => by show 7 ≤ sizeLine; decide))) (pg_name (i := 8) scRest.nd rfl (Or.inl rfl))
        (pss_one (ps_set (i := 4) scRest.nd rfl (Or.inl rfl) (pe_op op_cat (pv 4) (pe_lst (pa_cons (pe_op op_cat (pe_lst (pa_cons (pv 8) pa_nil)) (pe_slice sl_list (pv 9) (po_some pe_int) po_none)) (pa_cons (pe_op op_cat (pe_slice sl_list (pv 9) po_none (po_some (pe_op op_sub pe_int pe_int))) (pe_lst (pa_cons (pv 8) pa_nil))) pa_nil)))))))
      (pss_cons (ps_set (i := 4) scRest.nd rfl (Or.inl rfl) (pe_op op_cat (pv 4) (pe_lst (pa_cons (pe_op op_cat (pd_list (pds_cons (pd_int pe_int) (pds_cons (pd_bl pe_bl) pds_nil)) (fun _ => by show 2 ≤ sizeLine; decide)) (pe_slice sl_list (pv 9) (po_some pe_int) po_none)) (pa_cons (pe_op op_cat (pd_list (pds_cons (pd_bl pe_bl) pds_nil) (fun _ => by show 1 ≤ sizeLine; decide)) (pe_slice sl_list (pv 9) (po_some pe_int) po_none)) (pa_cons (pe_op op_cat (pe_slice sl_list (pv 9) (po_some pe_int) po_none) (pd_list (pds_cons (pd_bl pe_bl) (pds_cons (pd_int pe_int) pds_nil)) (fun _ => by show 2 ≤ sizeLine; decide))) pa_nil))))))
      (pss_cons (ps_set (i := 2) scRest.nd rfl (Or.inl rfl) (pe_op op_cat (pv 2) (pe_lc (own := [("_law_bad", 5)]) (g := (gName 5)) (tt := tYes) (te := (tCall (spRefused K er) [] E0 (tCons (tC (.int 3)) (tCons (tLst (tCons (tVar 0) (tCons (tVar 1) (tCons (tVar 5) tNil)))) (tCons (tC (.str "lot")) (tCons (tVar 5) tNil)))))) rfl scRest.nd (pi_list (pv 4))
            (blkOk_by (N := nRest) (sc := (defScope sRest)) (by decide +kernel)) (fun _ _ _ _ _ => (pg_name (i := 5) scRest.nd rfl (Or.inl rfl))) (fun _ _ _ _ _ => by exact pts_nil)
            (fun _ _ _ _ _ => by exact (pe_useG ULrefused hgd' hr (by rfl) (pa_cons pe_int (pa_cons (pe_lst (pa_cons (pv 0) (pa_cons (pv 1) (pa_cons (pv 5) pa_nil)))) (pa_cons pe_str (pa_cons (pv 5) pa_nil)))))))))
      (pss_cons (ps_for PassesOwn.never rfl (pi_list (pe_lst (pa_cons (pe_lst pa_nil) (pa_cons (pe_slice sl_list (pv 9) (po_some pe_int) po_none) (pa_cons (pe_op op_cat (pv 9) (pd_list (pds_cons (pd_int pe_int) pds_nil) (fun _ => by show 1 ≤ sizeLine; decide))) (pa_cons (pe_op op_cat (pe_slice sl_list (pv 9) (po_some pe_int) po_none) (pd_list (pds_cons (pd_var (pv 3)) pds_nil) (fun _ => by show 1 ≤ sizeLine; decide))) (pa_cons (pe_callTy call_tupL (by rfl) T.tuple (by decide +kernel) (pa_cons (pv 9) pa_nil)) (pa_cons (pe_op op_cat (pe_slice sl_list (pv 9) po_none (po_some (pe_op op_sub pe_int pe_int))) (pd_list (pds_cons (pd_int pe_int) pds_nil) (fun _ => by show 1 ≤ sizeLine; decide))) pa_nil)))))))) (pg_name (i := 5) scRest.nd rfl (Or.inr rfl))
        (pss_one (ps_expr (pe_bm PySem.F.plainAttrs_list PySem.F.slot_list_append PySem.F.type_list_append mt_append (pv 2) (pa_cons (pe_useG ULrefused hgd' hr (by rfl) (pa_cons pe_int (pa_cons (pe_lst (pa_cons (pv 0) (pa_cons (pv 1) (pa_cons (pv 5) pa_nil)))) (pa_cons pe_str (pa_cons (pv 5) pa_nil))))) pa_nil)))))
      (pss_one (ps_ret (pv 2)))))))))))))))), ?_⟩
    have nk : Nice 2 (.int k) := nice_int (by omega) (by omega)
    have lr : rs.length = kss.length := t.len
    have n40 : kss.length ≤ 40 := by omega
    have gcn : Nice 2 (tabP kss) := nice_tab2 fine k9 n40
    have g0 : GoodC H (.int k) (.ref c) (.int k) k c rs kss := ⟨rfl, rfl, rfl, k2, k9, t, fine, by omega, n40⟩
    refine ⟨Nat.zero_le _, fun f0 hf0 => ?_⟩
    obtain ⟨H1, e1, s1, f1⟩ := gen H hf0 (.lst [])
    rw [e1]
    clear e1
    refine ⟨_, rfl, c, _, rfl, .inl (SqL.of (s1 _ _ t.top)), _, _, rfl, ?_⟩
    rw [show ((rs.map V.ref).length : Int) = ((kss.length : Nat) : Int) by rw [List.length_map, lr]]
    have cok := cou_ok m2 m6
    have lok := lot_ok m2 m6
    obtain ⟨n, hn⟩ : ∃ n, kss.length = n := ⟨_, rfl⟩
    refine ⟨by repeat' (first | exact trivial | exact ⟨_, rfl⟩ | refine ⟨?_, ?_⟩), fun v2 H2 s2 dv2 => ?_⟩
    obtain ⟨a2, x2, rfl, ha2, hx2⟩ := dt_list dv2
    replace ha2 := newH_le _ _ ha2
    replace hx2 : Dts K H2 x2 (couB kss.length) := Dts.same newH_le _ _ hx2
    have l2 : x2.length = 13 := hx2.length
    refine ⟨_, rfl, by repeat' (first | exact trivial | exact ⟨_, rfl⟩ | refine ⟨?_, ?_⟩), fun v3 H3 s3 dv3 => ?_⟩
    obtain ⟨a3, x3, rfl, ha3, hx3⟩ := dt_list dv3
    replace ha3 := newH_le _ _ ha3
    replace hx3 : Dts K H3 x3 [.tuple [.str "0", .int 1]] := Dts.same newH_le _ _ hx3
    have l3 : x3.length = 1 := hx3.length
    refine ⟨a2, a3, x2, x3, rfl, rfl, s3 _ _ ha2, ha3, (by rw [sizeLine_eq]; omega), fun a4 na4 => ?_⟩
    obtain ⟨H4, e4, s4, Afa⟩ := gen H3 na4 (.lst (x2 ++ x3))
    rw [e4]
    clear e4
    have hx4 : Dts K H4 (x2 ++ x3) (couB kss.length ++ [PyData.tuple [.str "0", .int 1]]) := Dts.app (Dts.same (s3.trans s4) _ _ hx2) (Dts.same s4 _ _ hx3)
    have l4 : (x2 ++ x3).length = 14 := by rw [List.length_append, l2, l3]
    have s14 := s2.trans (s3.trans s4)
    have s04 := s1.trans s14
    have gc := g0.later s04
    refine ⟨a4, rfl, ⟨_, SqL.of Afa⟩, ?_⟩
    refine for_list (K := K) (a := a4) (xs := (x2 ++ x3)) (fun i σ H' => ∃ (f : Addr) (y : Option V) (m : Nat), σ = [some (.int k), some (.ref c), some (.ref f), some (.int (kss.length : Nat)), some (.ref a2), y, none, none, none, none] ∧ Same H4 H' ∧ GL.Due H' f m ∧ m ≤ 0 + 2 * i ∧ H f = none)
      ⟨f0, _, 0, rfl, Same.refl _, (s14 _ _ f1), Nat.le_refl _, hf0⟩ (fun i σ H' _ z => by
        obtain ⟨_, _, _, _, s', _⟩ := z
        exact SqL.of (s' _ _ Afa)) ?_ ?_
    · rintro i v σ AC hi ⟨f, y, m, rfl, As, due, mi, nf⟩
      obtain ⟨dv, ev, dt0⟩ := hx4.get hi
      have bad := cok dv (List.mem_of_getElem? ev)
      have nv : Nice 2 dv := bad.2
      have dt := dt0.same As
      have il : i < 14 := by
        have := (List.getElem?_eq_some_iff.mp hi).1
        omega
      have g := gc.later As
      refine ⟨_, rfl, ?_⟩
      refine ref_in (js := [0, 1]) (v := v) (dv := dv) ("InvalidCouple", "couple") (fun _ _ vs ds => vs = [.int k, .ref c, v] ∧ ds = [.int k, (tabP kss), dv]) (by decide) (fun Q' hq => ⟨by repeat' (first | exact trivial | exact ⟨_, rfl⟩ | refine ⟨?_, ?_⟩), fun v5 H12 s12 d5 => ?_⟩) (fun _ => ⟨rfl, rfl⟩) (fun _ _ _ h => ⟨_, rfl, h⟩) (fun _ _ _ _ _ h => ⟨_, rfl, _, rfl, _, rfl, h _ _ _ (Same.refl _) ⟨rfl, rfl⟩⟩)
        (fun j' H' vs ds hj' s' r => ?_) dt (show_nice nv) (by decide) (fun p H12 s12 np hp => ?_)
      · obtain ⟨a5, x5, rfl, ha5, hx5⟩ := dt_list d5
        refine hq a5 H12 s12 ?_
        rw [newH_le _ _ ha5, vals_of (ns := [0, 1]) hx5]
        rfl
      · obtain ⟨rfl, rfl⟩ := r
        have g' := g.later s'
        have d2 := dt.same s'
        refine ⟨(by show 3 ≤ 10; decide), .cons (.int k) (.cons g'.t.dt (.cons d2 .nil)), show3 nk gcn nv, ?_⟩
        exact ref_cou (by simp at hj'; omega) g' d2 bad.1
      refine ⟨f, p, _, _, rfl, rfl, s12 _ _ due, hp, (by rw [sizeLine_eq, List.length_replicate, List.length_map, List.length_range]; show m + 2 ≤ _; omega), fun p2 hp2 => ?_⟩
      rw [due_cat]
      obtain ⟨H13, e13, s13, f13⟩ := gen H12 hp2 (.lst (List.replicate (m + [0, 1].length) (.bl true)))
      rw [e13]
      clear e13
      exact ⟨p2, _, m + 2, rfl, As.trans (s12.trans s13), f13, by omega, (s04.trans (As.trans s12)).free hp2⟩
    rintro σ H5 ⟨f, y, m1, rfl, s5, due1, mi1, nf1⟩
    rw [l4] at mi1
    have s05 := s04.trans s5
    refine ⟨by repeat' (first | exact trivial | exact ⟨_, rfl⟩ | refine ⟨?_, ?_⟩), fun v6 H6 s6 dv6 => ?_⟩
    obtain ⟨a6, x6, rfl, ha6, hx6⟩ := dt_list dv6
    have Bfa := newH_le _ _ ha6
    replace hx6 : Dts K H6 x6 (lotB kss.length) := Dts.same newH_le _ _ hx6
    have l6 : x6.length = 14 := hx6.length
    have s06 := s05.trans s6
    have hc := g0.later s06
    have hcn := gcn
    refine ⟨a6, rfl, ⟨_, SqL.of Bfa⟩, ?_⟩
    refine for_list (K := K) (a := a6) (xs := x6) (fun i σ H' => ∃ (f : Addr) (y : Option V) (m : Nat), σ = [some (.int k), some (.ref c), some (.ref f), some (.int (kss.length : Nat)), some (.ref a2), y, none, none, none, none] ∧ Same H6 H' ∧ GL.Due H' f m ∧ m ≤ m1 + 2 * i ∧ H f = none)
      ⟨f, _, m1, rfl, Same.refl _, (s6 _ _ due1), Nat.le_refl _, nf1⟩ (fun i σ H' _ z => by
        obtain ⟨_, _, _, _, s', _⟩ := z
        exact SqL.of (s' _ _ Bfa)) ?_ ?_
    · rintro i v σ BC hi ⟨f, y, m, rfl, Bs, due, mi, nf⟩
      obtain ⟨dv, ev, dt0⟩ := hx6.get hi
      have bad := lok dv (List.mem_of_getElem? ev)
      have nv : Nice 2 dv := bad.2.2.1
      have dt := dt0.same Bs
      have il : i < 14 := by
        have := (List.getElem?_eq_some_iff.mp hi).1
        omega
      have g := hc.later Bs
      refine ⟨_, rfl, ?_⟩
      refine ref_in (js := [2, 3]) (v := v) (dv := dv) ("InvalidLot", "lot") (fun _ _ vs ds => vs = [.int k, .ref c, v] ∧ ds = [.int k, (tabP kss), dv]) (by decide) (fun Q' hq => ⟨by repeat' (first | exact trivial | exact ⟨_, rfl⟩ | refine ⟨?_, ?_⟩), fun v5 H12 s12 d5 => ?_⟩) (fun _ => ⟨rfl, rfl⟩) (fun _ _ _ h => ⟨_, rfl, h⟩) (fun _ _ _ _ _ h => ⟨_, rfl, _, rfl, _, rfl, h _ _ _ (Same.refl _) ⟨rfl, rfl⟩⟩)
        (fun j' H' vs ds hj' s' r => ?_) dt (show_nice nv) (by decide) (fun p H12 s12 np hp => ?_)
      · obtain ⟨a5, x5, rfl, ha5, hx5⟩ := dt_list d5
        refine hq a5 H12 s12 ?_
        rw [newH_le _ _ ha5, vals_of (ns := [2, 3]) hx5]
        rfl
      · obtain ⟨rfl, rfl⟩ := r
        have g' := g.later s'
        have d2 := dt.same s'
        refine ⟨(by show 3 ≤ 10; decide), .cons (.int k) (.cons g'.t.dt (.cons d2 .nil)), show3 nk hcn nv, ?_⟩
        have j2 : j' = 2 ∨ j' = 3 := by simpa using hj'
        rcases j2 with rfl | rfl
        · exact ref_lot g' d2 bad.1
        · exact ref_ord g' d2 bad.2
      refine ⟨f, p, _, _, rfl, rfl, s12 _ _ due, hp, (by rw [sizeLine_eq, List.length_replicate, List.length_map, List.length_range]; show m + 2 ≤ _; omega), fun p2 hp2 => ?_⟩
      rw [due_cat]
      obtain ⟨H13, e13, s13, f13⟩ := gen H12 hp2 (.lst (List.replicate (m + [2, 3].length) (.bl true)))
      rw [e13]
      clear e13
      exact ⟨p2, _, m + 2, rfl, Bs.trans (s12.trans s13), f13, by omega, (s06.trans (Bs.trans s12)).free hp2⟩
    rintro σ H7 ⟨f, y, m2', rfl, s7, due2, mi2, nf2⟩
    rw [l6] at mi2
    have s07 := s06.trans s7
    refine ⟨_, rfl, ?_⟩
    refine ref_over (d := 2) (ds := lot3) ("InvalidLot", "lot") (fun _ v dv vs es => vs = [.int k, .ref c, v] ∧ es = [.int k, tabP kss, dv]) (by decide) (fun Q' hq => ⟨by repeat' (first | exact trivial | exact ⟨_, rfl⟩ | refine ⟨?_, ?_⟩), fun v8 H8 s8 dv8 => ?_⟩) (fun _ => ⟨rfl, rfl⟩) (fun _ _ _ h => h) (fun _ _ _ _ _ h => ⟨_, rfl, _, rfl, _, rfl, h _ _ _ (Same.refl _) ⟨rfl, rfl⟩⟩) (fun v dv H' vs es hd s' dt r => ?_) (fun dv hd => show_nice (lot3_ok (n := 0) dv hd).2) (by decide) (fun p H8 s8 np hp => ?_)
    · obtain ⟨a8, x8, rfl, ha8, hx8⟩ := dt_list dv8
      exact hq a8 x8 H8 s8 (newH_le _ _ ha8) (Dts.same newH_le _ _ hx8)
    · obtain ⟨rfl, rfl⟩ := r
      have g' := (g0.later s07).later s'
      exact ⟨(by show 3 ≤ 10; decide), .cons (.int k) (.cons g'.t.dt (.cons dt .nil)), show3 nk gcn (lot3_ok (n := 0) dv hd).2, ref_lot g' dt (lot3_ok dv hd).1⟩
    refine ⟨f, p, _, _, rfl, rfl, s8 _ _ due2, hp, (by rw [sizeLine_eq, List.length_replicate, List.length_map, List.length_range]; show m2' + 3 ≤ _; omega), fun f9 hf9 => ?_⟩
    rw [due_cat]
    obtain ⟨H9, e9, s9, due3⟩ := gen H8 hf9 (.lst (List.replicate (m2' + lot3.length) (.bl true)))
    rw [e9]
    clear e9
    have s09 := s07.trans (s8.trans s9)
    have nf3 : H f9 = none := (s07.trans s8).free hf9
    have m3 : m2' + lot3.length ≤ 100 := by
      show m2' + 3 ≤ 100
      omega
    generalize m2' + lot3.length = m3' at due3 m3
    refine ⟨_, rfl, by repeat' (first | exact trivial | refine ⟨?_, ?_⟩), fun v12 H12 s12 dv12 => ?_⟩
    obtain ⟨a12, x12, rfl, ha12, hx12⟩ := dt_list dv12
    replace ha12 := newH_le _ _ ha12
    obtain rfl := vals_of (ns := [0]) hx12
    refine ⟨_, rfl, a12, _, _, rfl, rfl, ha12, by omega, by omega, ?_, fun a13 na13 => ?_⟩
    · rw [sizeLine_eq, List.length_map, Int.toNat_natCast]
      show 1 * _ ≤ _
      omega
    obtain ⟨H13, e13, s13, f13⟩ := gen H12 na13 (.lst ((List.replicate kss.length (0 : Int)).map V.int))
    have er1 : (List.replicate ((kss.length : Nat) : Int).toNat ([0].map V.int)).flatten = (List.replicate kss.length (0 : Int)).map V.int := by
      rw [Int.toNat_natCast]
      exact rep_one kss.length 0
    rw [er1, e13]
    clear e13 er1
    refine ⟨by repeat' (first | exact trivial | refine ⟨?_, ?_⟩), fun v14 H14 s14b dv14 => ?_⟩
    obtain ⟨a14, x14, rfl, ha14, hx14⟩ := dt_list dv14
    replace ha14 := newH_le _ _ ha14
    obtain rfl := vals_of (ns := [0]) hx14
    refine ⟨_, rfl, _, _, rfl, rfl, a14, _, _, rfl, rfl, ha14, by omega, by omega, ?_, fun a15 na15 => ?_⟩
    · rw [sizeLine_eq, List.length_map]
      show 1 * _ ≤ _
      omega
    obtain ⟨H15, e15, s15, f15⟩ := gen H14 na15 (.lst ((List.replicate (kss.length + 1) (0 : Int)).map V.int))
    have er2 : (List.replicate (((kss.length : Nat) : Int) + 1).toNat ([0].map V.int)).flatten = (List.replicate (kss.length + 1) (0 : Int)).map V.int := by
      rw [show (((kss.length : Nat) : Int) + 1).toNat = kss.length + 1 by omega]
      exact rep_one (kss.length + 1) 0
    rw [er2, e15]
    clear e15 er2
    refine ⟨(by show 2 ≤ sizeLine; decide), fun a16 na16 => ?_⟩
    obtain ⟨H16, e16, s16, f16⟩ := gen H15 na16 (.lst [.ref a13, .ref a15])
    rw [e16]
    clear e16
    have s912 := s12
    have s916 := s12.trans (s13.trans (s14b.trans (s15.trans s16)))
    refine ⟨c, a16, _, _, rfl, rfl, (s09.trans s916) _ _ t.top, f16, (by rw [sizeLine_eq, List.length_map]; show rs.length + 2 ≤ _; omega), fun a17 na17 => ?_⟩
    obtain ⟨H17, e17, s17, f17⟩ := gen H16 na17 (.lst ((rs ++ [a13] ++ [a15]).map V.ref))
    have er3 : rs.map V.ref ++ [V.ref a13, V.ref a15] = (rs ++ [a13] ++ [a15]).map V.ref := by simp
    rw [er3, e17]
    clear e17 er3
    have tL : Tab H17 a17 (rs ++ [a13] ++ [a15]) (kss ++ [List.replicate kss.length 0] ++ [List.replicate (kss.length + 1) 0]) :=
      (((t.same (s09.trans s12)).rws.more s13 na13 f13).more (s14b.trans s15) (s14b.free na15) f15).tab (s16.trans s17) f17
    have lL : (kss ++ [List.replicate kss.length (0 : Int)] ++ [List.replicate (kss.length + 1) 0]).length = kss.length + 2 := by simp
    have fL : Fine k (kss ++ [List.replicate kss.length 0] ++ [List.replicate (kss.length + 1) 0]) := fine_zero (fine_zero fine (by omega) rfl) (by omega) (by simp)
    generalize hLs : kss ++ [List.replicate kss.length (0 : Int)] ++ [List.replicate (kss.length + 1) 0] = lss at tL lL fL
    generalize hRs : rs ++ [a13] ++ [a15] = rl at tL
    have gL : GoodC H17 (.int k) (.ref a17) (.int k) k a17 rl lss := ⟨rfl, rfl, rfl, k2, k9, tL, fL, by omega, by omega⟩
    have gLn : Nice 2 (tabP lss) := nice_tab2 fL k9 (by omega)
    have s917 := s916.trans s17
    have s017 := s09.trans s917
    refine ⟨by repeat' (first | exact trivial | exact ⟨_, rfl⟩ | refine ⟨?_, ?_⟩), fun v18 H18 s18 dv18 => ?_⟩
    obtain ⟨a18, x18, rfl, ha18, hx18⟩ := dt_list dv18
    replace ha18 := newH_le _ _ ha18
    replace hx18 : Dts K H18 x18 oddB := Dts.same newH_le _ _ hx18
    have l18 : x18.length = 8 := hx18.length
    refine ⟨_, rfl, by repeat' (first | exact trivial | exact ⟨_, rfl⟩ | refine ⟨?_, ?_⟩), fun v19 H19 s19 dv19 => ?_⟩
    obtain ⟨a19, x19, rfl, ha19, hx19⟩ := dt_list dv19
    replace ha19 := newH_le _ _ ha19
    replace hx19 : Dts K H19 x19 [PyData.list [.int 0, .none]] := Dts.same newH_le _ _ hx19
    have l19 : x19.length = 1 := hx19.length
    refine ⟨a18, a19, x18, x19, rfl, rfl, s19 _ _ ha18, ha19, (by rw [sizeLine_eq]; omega), fun a20 na20 => ?_⟩
    obtain ⟨H20, e20, s20, Cfa⟩ := gen H19 na20 (.lst (x18 ++ x19))
    rw [e20]
    clear e20
    have hx20 : Dts K H20 (x18 ++ x19) (oddB ++ [PyData.list [.int 0, .none]]) := Dts.app (Dts.same (s19.trans s20) _ _ hx18) (Dts.same s20 _ _ hx19)
    have l20 : (x18 ++ x19).length = 9 := by rw [List.length_append, l18, l19]
    have s1720 := s18.trans (s19.trans s20)
    have s020 := s017.trans s1720
    have gLL := gL.later s1720
    have gLLn := gLn
    have ook := odd_ok (n := lss.length) (by omega) (by omega)
    refine ⟨a20, rfl, ⟨_, SqL.of Cfa⟩, ?_⟩
    refine for_list (K := K) (a := a20) (xs := (x18 ++ x19)) (fun i σ H' => ∃ (f : Addr) (y : Option V) (m : Nat), σ = [some (.int k), some (.ref c), some (.ref f), some (.int (kss.length : Nat)), some (.ref a2), y, none, some (.ref a17), some (.ref a18), none] ∧ Same H20 H' ∧ GL.Due H' f m ∧ m ≤ m3' + 2 * i ∧ H f = none)
      ⟨f9, _, m3', rfl, Same.refl _, ((s917.trans s1720) _ _ due3), Nat.le_refl _, nf3⟩ (fun i σ H' _ z => by
        obtain ⟨_, _, _, _, s', _⟩ := z
        exact SqL.of (s' _ _ Cfa)) ?_ ?_
    · rintro i v σ CC hi ⟨f, y, m, rfl, Cs, due, mi, nf⟩
      obtain ⟨dv, ev, dt0⟩ := hx20.get hi
      have bad := ook dv (List.mem_of_getElem? ev)
      have nv : Nice 2 dv := bad.2.2.1
      have dt := dt0.same Cs
      have il : i < 9 := by
        have := (List.getElem?_eq_some_iff.mp hi).1
        omega
      have g := gLL.later Cs
      refine ⟨_, rfl, ?_⟩
      refine ref_in (js := [2, 3]) (v := v) (dv := dv) ("InvalidLot", "lot") (fun _ _ vs ds => vs = [.int k, .ref a17, v] ∧ ds = [.int k, (tabP lss), dv]) (by decide) (fun Q' hq => ⟨by repeat' (first | exact trivial | exact ⟨_, rfl⟩ | refine ⟨?_, ?_⟩), fun v5 H12 s12 d5 => ?_⟩) (fun _ => ⟨rfl, rfl⟩) (fun _ _ _ h => ⟨_, rfl, h⟩) (fun _ _ _ _ _ h => ⟨_, rfl, _, rfl, _, rfl, h _ _ _ (Same.refl _) ⟨rfl, rfl⟩⟩)
        (fun j' H' vs ds hj' s' r => ?_) dt (show_nice nv) (by decide) (fun p H12 s12 np hp => ?_)
      · obtain ⟨a5, x5, rfl, ha5, hx5⟩ := dt_list d5
        refine hq a5 H12 s12 ?_
        rw [newH_le _ _ ha5, vals_of (ns := [2, 3]) hx5]
        rfl
      · obtain ⟨rfl, rfl⟩ := r
        have g' := g.later s'
        have d2 := dt.same s'
        refine ⟨(by show 3 ≤ 10; decide), .cons (.int k) (.cons g'.t.dt (.cons d2 .nil)), show3 nk gLLn nv, ?_⟩
        have j2 : j' = 2 ∨ j' = 3 := by simpa using hj'
        rcases j2 with rfl | rfl
        · exact ref_lot g' d2 bad.1
        · exact ref_ord g' d2 bad.2
      refine ⟨f, p, _, _, rfl, rfl, s12 _ _ due, hp, (by rw [sizeLine_eq, List.length_replicate, List.length_map, List.length_range]; show m + 2 ≤ _; omega), fun p2 hp2 => ?_⟩
      rw [due_cat]
      obtain ⟨H13, e13, s13, f13⟩ := gen H12 hp2 (.lst (List.replicate (m + [2, 3].length) (.bl true)))
      rw [e13]
      clear e13
      exact ⟨p2, _, m + 2, rfl, Cs.trans (s12.trans s13), f13, by omega, (s020.trans (Cs.trans s12)).free hp2⟩
    rintro σ H21 ⟨f, y, m4, rfl, s21, due4, mi4, nf4⟩
    rw [l20] at mi4
    have s021 := s020.trans s21
    refine ⟨_, rfl, _, rfl, RgOk.of_le (by omega) (by omega) (by omega) (by omega), fun a22 na22 => ⟨Nat.zero_le _, fun a23 na23 => ⟨_, _, rfl, ?_⟩⟩⟩
    obtain ⟨H22, e22, s22, f22⟩ := gen H21 na22 (.lst (natV (List.range kss.length)))
    have er4 : rgV 0 ((kss.length : Nat) : Int) = natV (List.range kss.length) := rg_nat kss.length
    rw [er4, e22] at na23 ⊢
    clear e22 er4
    obtain ⟨H23, e23, s23, f23⟩ := gen H22 na23 (.lst [])
    rw [e23]
    clear e23
    have s023 := s021.trans (s22.trans s23)
    have due23 := (s22.trans s23) _ _ due4
    have f22' := s23 _ _ f22
    refine ⟨by repeat' (first | exact trivial | exact ⟨_, rfl⟩ | refine ⟨?_, ?_⟩), fun v24 H24 s24 dv24 => ?_⟩
    obtain ⟨a24, x24, rfl, ha24, hx24⟩ := dt_list dv24
    replace ha24 := newH_le _ _ ha24
    replace hx24 : Dts K H24 x24 odds := Dts.same newH_le _ _ hx24
    have l24 : x24.length = 7 := hx24.length
    have ods := odds_ok (n := kss.length) m6
    have s024 := s023.trans s24
    have f24 := s24 _ _ f22'
    have oj : ∀ j ∈ List.range kss.length, j < 100 := fun j hj => by
      have := List.mem_range.mp hj
      omega
    have oj1 : ∀ j ∈ (List.range kss.length).drop 1, j < 100 := fun j hj => oj j (List.mem_of_mem_drop hj)
    have oj2 : ∀ j ∈ (List.range kss.length).drop 2, j < 100 := fun j hj => oj j (List.mem_of_mem_drop hj)
    have ojm : ∀ j ∈ List.range (kss.length - 1), j < 100 := fun j hj => by
      have := List.mem_range.mp hj
      omega
    have ln1 : ∀ l : List Nat, (natD l).length = l.length := fun l => by
      unfold natD nums
      rw [List.length_map, List.length_map]
    have lv1 : ∀ l : List Nat, (natV l).length = l.length := fun l => by
      unfold natV
      rw [List.length_map]
    have lr1 : ((List.range kss.length).drop 1).length = kss.length - 1 := by rw [List.length_drop, List.length_range]
    have lr2 : ((List.range kss.length).drop 2).length = kss.length - 2 := by rw [List.length_drop, List.length_range]
    have lrm : (List.range (kss.length - 1)).length = kss.length - 1 := List.length_range
    refine ⟨a24, rfl, ⟨_, SqL.of ha24⟩, ?_⟩
    refine for_list (K := K) (a := a24) (xs := x24) (fun i σ H' => ∃ (wr : Addr) (o : Option V) (xs : List V) (ds : List PyData), σ = [some (.int k), some (.ref c), some (.ref f), some (.int (kss.length : Nat)), some (.ref wr), y, none, some (.ref a17), o, some (.ref a22)] ∧ Same H24 H' ∧ H' wr = some (.lst xs) ∧ Dts K H' xs ds ∧ (∀ d ∈ ds, OrdBad kss.length d) ∧ ds.length = 2 * i)
      ⟨a23, _, [], [], rfl, Same.refl _, s24 _ _ f23, .nil, by simp, rfl⟩ (fun i σ H' _ z => by
        obtain ⟨_, _, _, _, _, s', _⟩ := z
        exact SqL.of (s' _ _ ha24)) ?_ ?_
    · rintro i v σ H25 hi ⟨wr, o, xs, ds, rfl, s25, hw, dts, obs, ld⟩
      obtain ⟨dv, ev, dt0⟩ := hx24.get hi
      have dm := List.mem_of_getElem? ev
      have ob := ods dv dm
      have il : i < 7 := by
        have := (List.getElem?_eq_some_iff.mp hi).1
        omega
      have dt := dt0.same s25
      have f25 := s25 _ _ f24
      have lx := dts.length
      refine ⟨_, rfl, _, rfl, one_le, fun b1 nb1 => ?_⟩
      obtain ⟨G1, g1, t1, h1⟩ := gen H25 nb1 (.lst [v])
      show _
      rw [g1]
      clear g1
      refine ⟨_, rfl, 1, rfl, a22, _, rfl, SqL.of (t1 _ _ f25), fun b2 nb2 => ?_⟩
      rw [cut_first]
      obtain ⟨G2, g2, t2, h2⟩ := gen G1 nb2 (.lst (natV ((List.range kss.length).drop 1)))
      rw [g2]
      clear g2
      refine ⟨b1, b2, _, _, rfl, rfl, t2 _ _ h1, h2, (by rw [sizeLine_eq, lv1, lr1, List.length_singleton]; omega), fun b3 nb3 => ?_⟩
      obtain ⟨G3, g3, t3, h3⟩ := gen G2 nb3 (.lst ([v] ++ natV ((List.range kss.length).drop 1)))
      rw [g3]
      clear g3
      have t03 := t1.trans (t2.trans t3)
      refine ⟨_, rfl, _, _, rfl, rfl, _, rfl, a22, _, rfl, SqL.of (t03 _ _ f25), fun b4 nb4 => ?_⟩
      rw [cut_last m2 m6]
      obtain ⟨G4, g4, t4, h4⟩ := gen G3 nb4 (.lst (natV (List.range (kss.length - 1))))
      rw [g4]
      clear g4
      refine ⟨_, rfl, one_le, fun b5 nb5 => ?_⟩
      obtain ⟨G5, g5, t5, h5⟩ := gen G4 nb5 (.lst [v])
      rw [g5]
      clear g5
      refine ⟨b4, b5, _, _, rfl, rfl, t5 _ _ h4, h5, (by rw [sizeLine_eq, lv1, lrm, List.length_singleton]; omega), fun b6 nb6 => ?_⟩
      obtain ⟨G6, g6, t6, h6⟩ := gen G5 nb6 (.lst (natV (List.range (kss.length - 1)) ++ [v]))
      rw [g6]
      clear g6
      refine ⟨(by show 2 ≤ sizeLine; decide), fun b7 nb7 => ?_⟩
      obtain ⟨G7, g7, t7, h7⟩ := gen G6 nb7 (.lst [.ref b3, .ref b6])
      rw [g7]
      clear g7
      have t36 := t4.trans (t5.trans t6)
      have t07 := t03.trans (t36.trans t7)
      refine ⟨wr, b7, _, _, rfl, rfl, t07 _ _ hw, h7, (by rw [sizeLine_eq, lx, ld]; show _ + 2 ≤ _; omega), fun b8 nb8 => ?_⟩
      obtain ⟨G8, g8, t8, h8⟩ := gen G7 nb8 (.lst (xs ++ [.ref b3, .ref b6]))
      rw [g8]
      clear g8
      have t08 := t07.trans t8
      refine ⟨b8, _, _, ds ++ [.list (dv :: natD ((List.range kss.length).drop 1)), .list (natD (List.range (kss.length - 1)) ++ [dv])], rfl, s25.trans t08, h8, ?_, ?_, ?_⟩
      · exact Dts.app (Dts.same t08 _ _ dts) (.cons (.lst ((t36.trans (t7.trans t8)) _ _ h3) (.cons (dt.same t08) (dts_nat _))) (.cons (.lst ((t7.trans t8) _ _ h6) (Dts.app (dts_nat _) (.cons (dt.same t08) .nil))) .nil))
      · intro d hd
        rcases List.mem_append.mp hd with hd | hd
        · exact obs d hd
        · simp only [List.mem_cons, List.not_mem_nil, or_false] at hd
          rcases hd with rfl | rfl
          · refine ord_bad List.mem_cons_self ob.1 ?_ fun e he => ?_
            · rw [List.length_cons, ln1, lr1]
              omega
            · rcases List.mem_cons.mp he with rfl | he
              · exact ob.2
              · exact nice_nums oj1 e he
          · refine ord_bad (List.mem_append_right _ (List.mem_singleton.mpr rfl)) ob.1 ?_ fun e he => ?_
            · rw [List.length_append, ln1, lrm, List.length_singleton]
              omega
            · rcases List.mem_append.mp he with he | he
              · exact nice_nums ojm e he
              · rw [List.mem_singleton] at he
                subst he
                exact ob.2
      · rw [List.length_append, ld]
        show 2 * i + 2 = _
        omega
    rintro σ H25 ⟨wr, o, xs, ds, rfl, s25, hw, dts, obs, ld⟩
    rw [l24] at ld
    have lx := dts.length
    have s025 := s024.trans s25
    have f25 := s25 _ _ f24
    have due25 := (s24.trans s25) _ _ due23
    refine ⟨_, rfl, by repeat' (first | exact trivial | exact ⟨_, rfl⟩ | refine ⟨?_, ?_⟩), fun v26 H26 s26 dv26 => ?_⟩
    obtain ⟨c1, y1, rfl, hc1, hy1⟩ := dt_list dv26
    replace hc1 := newH_le _ _ hc1
    replace hy1 : Dts K H26 y1 [.int 0, .bool true] := Dts.same newH_le _ _ hy1
    have ly1 : y1.length = 2 := hy1.length
    refine ⟨_, rfl, 2, rfl, a22, _, rfl, SqL.of (s26 _ _ f25), fun c2 nc2 => ?_⟩
    rw [cut_two m2 m6]
    obtain ⟨G1, g1, t1, h1⟩ := gen H26 nc2 (.lst (natV ((List.range kss.length).drop 2)))
    rw [g1]
    clear g1
    refine ⟨c1, c2, _, _, rfl, rfl, t1 _ _ hc1, h1, (by rw [sizeLine_eq, lv1, lr2]; omega), fun c3 nc3 => ?_⟩
    obtain ⟨G2, g2, t2, h2⟩ := gen G1 nc3 (.lst (y1 ++ natV ((List.range kss.length).drop 2)))
    rw [g2]
    clear g2
    refine ⟨by repeat' (first | exact trivial | exact ⟨_, rfl⟩ | refine ⟨?_, ?_⟩), fun v27 H27 s27 dv27 => ?_⟩
    obtain ⟨c4, y2, rfl, hc4, hy2⟩ := dt_list dv27
    replace hc4 := newH_le _ _ hc4
    replace hy2 : Dts K H27 y2 [.bool false] := Dts.same newH_le _ _ hy2
    have ly2 : y2.length = 1 := hy2.length
    refine ⟨_, rfl, 1, rfl, a22, _, rfl, SqL.of ((s26.trans (t1.trans (t2.trans s27))) _ _ f25), fun c5 nc5 => ?_⟩
    rw [cut_first]
    obtain ⟨G3, g3, t3, h3⟩ := gen H27 nc5 (.lst (natV ((List.range kss.length).drop 1)))
    rw [g3]
    clear g3
    refine ⟨c4, c5, _, _, rfl, rfl, t3 _ _ hc4, h3, (by rw [sizeLine_eq, lv1, lr1]; omega), fun c6 nc6 => ?_⟩
    obtain ⟨G4, g4, t4, h4⟩ := gen G3 nc6 (.lst (y2 ++ natV ((List.range kss.length).drop 1)))
    rw [g4]
    clear g4
    have s2G4 := s26.trans (t1.trans (t2.trans (s27.trans (t3.trans t4))))
    refine ⟨_, rfl, 2, rfl, a22, _, rfl, SqL.of (s2G4 _ _ f25), fun c7 nc7 => ?_⟩
    rw [cut_two m2 m6]
    obtain ⟨G5, g5, t5, h5⟩ := gen G4 nc7 (.lst (natV ((List.range kss.length).drop 2)))
    rw [g5]
    clear g5
    refine ⟨by repeat' (first | exact trivial | exact ⟨_, rfl⟩ | refine ⟨?_, ?_⟩), fun v28 H28 s28 dv28 => ?_⟩
    obtain ⟨c8, y3, rfl, hc8, hy3⟩ := dt_list dv28
    replace hc8 := newH_le _ _ hc8
    replace hy3 : Dts K H28 y3 [.bool true, .int 0] := Dts.same newH_le _ _ hy3
    have ly3 : y3.length = 2 := hy3.length
    refine ⟨c7, c8, _, _, rfl, rfl, s28 _ _ h5, hc8, (by rw [sizeLine_eq, lv1, lr2]; omega), fun c9 nc9 => ?_⟩
    obtain ⟨G6, g6, t6, h6⟩ := gen H28 nc9 (.lst (natV ((List.range kss.length).drop 2) ++ y3))
    rw [g6]
    clear g6
    refine ⟨(by show 3 ≤ sizeLine; decide), fun c10 nc10 => ?_⟩
    obtain ⟨G7, g7, t7, h7⟩ := gen G6 nc10 (.lst [.ref c3, .ref c6, .ref c9])
    rw [g7]
    clear g7
    have s4G7 := t5.trans (s28.trans (t6.trans t7))
    have s25G := s2G4.trans s4G7
    refine ⟨wr, c10, _, _, rfl, rfl, s25G _ _ hw, h7, (by rw [sizeLine_eq, lx, ld]; show _ + 3 ≤ _; omega), fun c11 nc11 => ?_⟩
    obtain ⟨H29, e29, s29, f29⟩ := gen G7 nc11 (.lst (xs ++ [.ref c3, .ref c6, .ref c9]))
    rw [e29]
    clear e29
    have s2529 := s25G.trans s29
    have dts29 : Dts K H29 (xs ++ [.ref c3, .ref c6, .ref c9]) (ds ++ [PyData.list ([.int 0, .bool true] ++ natD ((List.range kss.length).drop 2)), PyData.list ([.bool false] ++ natD ((List.range kss.length).drop 1)), PyData.list (natD ((List.range kss.length).drop 2) ++ [.bool true, .int 0])]) := by
      have u4 := s4G7.trans s29
      have u2 : Same G2 H29 := (s27.trans (t3.trans t4)).trans u4
      exact Dts.app (Dts.same s2529 _ _ dts) (.cons (.lst (u2 _ _ h2) (Dts.app (Dts.same ((t1.trans t2).trans u2) _ _ hy1) (dts_nat _))) (.cons (.lst (u4 _ _ h4) (Dts.app (Dts.same ((t3.trans t4).trans u4) _ _ hy2) (dts_nat _)))
        (.cons (.lst ((t7.trans s29) _ _ h6) (Dts.app (dts_nat _) (Dts.same (t6.trans (t7.trans s29)) _ _ hy3))) .nil)))
    have n1t : Nice 1 (.bool true) := Nice.leaf trivial
    have n1f : Nice 1 (.bool false) := Nice.leaf trivial
    have n10 : Nice 1 (.int 0) := Nice.leaf (by show (0 : Int).natAbs < 2 ^ 100; decide)
    have obs29 : ∀ d ∈ ds ++ [PyData.list ([.int 0, .bool true] ++ natD ((List.range kss.length).drop 2)), PyData.list ([.bool false] ++ natD ((List.range kss.length).drop 1)), PyData.list (natD ((List.range kss.length).drop 2) ++ [.bool true, .int 0])], OrdBad kss.length d := by
      intro d hd
      rcases List.mem_append.mp hd with hd | hd
      · exact obs d hd
      · simp only [List.mem_cons, List.not_mem_nil, or_false] at hd
        rcases hd with rfl | rfl | rfl
        · refine ord_bad (o := .bool true) (by simp) rfl (by rw [List.length_append, ln1, lr2]; show 2 + _ ≤ 50; omega) fun e he => ?_
          rcases List.mem_append.mp he with he | he
          · simp only [List.mem_cons, List.not_mem_nil, or_false] at he
            rcases he with rfl | rfl
            · exact n10
            · exact n1t
          · exact nice_nums oj2 e he
        · refine ord_bad (o := .bool false) (by simp) rfl (by rw [List.length_append, ln1, lr1]; show 1 + _ ≤ 50; omega) fun e he => ?_
          rcases List.mem_append.mp he with he | he
          · rw [List.mem_singleton] at he
            subst he
            exact n1f
          · exact nice_nums oj1 e he
        · refine ord_bad (o := .bool true) (by simp) rfl (by rw [List.length_append, ln1, lr2]; show _ + 2 ≤ 50; omega) fun e he => ?_
          rcases List.mem_append.mp he with he | he
          · exact nice_nums oj2 e he
          · simp only [List.mem_cons, List.not_mem_nil, or_false] at he
            rcases he with rfl | rfl
            · exact n1t
            · exact n10
    have lds : (ds ++ [PyData.list ([.int 0, .bool true] ++ natD ((List.range kss.length).drop 2)), PyData.list ([.bool false] ++ natD ((List.range kss.length).drop 1)), PyData.list (natD ((List.range kss.length).drop 2) ++ [.bool true, .int 0])]).length = 17 := by
      rw [List.length_append, ld]
      rfl
    generalize hXS : xs ++ [V.ref c3, V.ref c6, V.ref c9] = xs9 at *
    generalize hDS : ds ++ [PyData.list ([.int 0, .bool true] ++ natD ((List.range kss.length).drop 2)), PyData.list ([.bool false] ++ natD ((List.range kss.length).drop 1)), PyData.list (natD ((List.range kss.length).drop 2) ++ [.bool true, .int 0])] = ds9 at *
    have s029 := s025.trans s2529
    have due29 := s2529 _ _ due25
    have f29o := s2529 _ _ f25
    refine ⟨_, rfl, ?_⟩
    refine ref_over (d := 3) (ds := ds9) ("InvalidLot", "lot") (fun _ v dv vs es => vs = [.int k, .ref c, v] ∧ es = [.int k, tabP kss, dv]) (by omega) (fun Q' hq => ⟨_, rfl, hq c11 _ _ (Same.refl _) f29 dts29⟩) (fun _ => ⟨rfl, rfl⟩) (fun _ _ _ h => h) (fun _ _ _ _ _ h => ⟨_, rfl, _, rfl, _, rfl, h _ _ _ (Same.refl _) ⟨rfl, rfl⟩⟩) (fun v dv H' vs es hd s' dt r => ?_) (fun dv hd => show_nice (obs29 dv hd).2.1) (by decide) (fun p H30 s30 np hp => ?_)
    · obtain ⟨rfl, rfl⟩ := r
      have g' := (g0.later s029).later s'
      exact ⟨(by show 3 ≤ 10; decide), .cons (.int k) (.cons g'.t.dt (.cons dt .nil)), show3 nk gcn (obs29 dv hd).2.1, ref_ord g' dt (obs29 dv hd)⟩
    refine ⟨f, p, _, _, rfl, rfl, s30 _ _ due29, hp, (by rw [sizeLine_eq, List.length_replicate, List.length_map, List.length_range]; omega), fun f31 hf31 => ?_⟩
    rw [due_cat, lds]
    obtain ⟨H31, e31, s31, due31⟩ := gen H30 hf31 (.lst (List.replicate (m4 + 17) (.bl true)))
    rw [e31]
    clear e31
    have s031 := s029.trans (s30.trans s31)
    have nf31 : H f31 = none := (s029.trans s30).free hf31
    have ford := (s30.trans s31) _ _ f29o
    have zf : ∀ {b : Addr} {o : HO}, H b = some o → b ≠ f31 := fun e z => by
      rw [z, nf31] at e
      cases e
    refine ⟨Nat.zero_le _, fun d1 nd1 => ?_⟩
    obtain ⟨J1, j1, u1, k1⟩ := gen H31 nd1 (.lst [])
    rw [j1]
    clear j1
    refine ⟨_, rfl, 1, rfl, a22, _, rfl, SqL.of (u1 _ _ ford), fun d2 nd2 => ?_⟩
    rw [cut_first]
    obtain ⟨J2, j2, u2, k2'⟩ := gen J1 nd2 (.lst (natV ((List.range kss.length).drop 1)))
    rw [j2]
    clear j2
    refine ⟨_, rfl, by repeat' (first | exact trivial | exact ⟨_, rfl⟩ | refine ⟨?_, ?_⟩), fun v3 J3 u3 dv3' => ?_⟩
    obtain ⟨d3, z3, rfl, hd3, hz3⟩ := dt_list dv3'
    replace hd3 := newH_le _ _ hd3
    obtain rfl := vals_of (ns := [0]) hz3
    have u13 := u1.trans (u2.trans u3)
    refine ⟨a22, d3, _, _, rfl, rfl, u13 _ _ ford, hd3, (by rw [sizeLine_eq, lv1, List.length_range]; show _ + 1 ≤ _; omega), fun d4 nd4 => ?_⟩
    obtain ⟨J4, j4, u4, k4⟩ := gen J3 nd4 (.lst (natV (List.range kss.length ++ [0])))
    have ej4 : natV (List.range kss.length) ++ [0].map V.int = natV (List.range kss.length ++ [0]) := by
      unfold natV
      rw [List.map_append]
      rfl
    rw [ej4, j4]
    clear j4 ej4
    refine ⟨_, rfl, 1, rfl, a22, _, rfl, SqL.of ((u13.trans u4) _ _ ford), fun d5 nd5 => ?_⟩
    rw [cut_first]
    obtain ⟨J5, j5, u5, k5⟩ := gen J4 nd5 (.lst (natV ((List.range kss.length).drop 1)))
    rw [j5]
    clear j5
    refine ⟨by repeat' (first | exact trivial | exact ⟨_, rfl⟩ | refine ⟨?_, ?_⟩), fun v6' J6 u6 dv6' => ?_⟩
    obtain ⟨d6, z6, rfl, hd6, hz6⟩ := dt_list dv6'
    replace hd6 := newH_le _ _ hd6
    obtain rfl := vals_of (ns := [((kss.length : Nat) : Int)]) hz6
    refine ⟨d5, d6, _, _, rfl, rfl, u6 _ _ k5, hd6, (by rw [sizeLine_eq, lv1, lr1]; show _ + 1 ≤ _; omega), fun d7 nd7 => ?_⟩
    obtain ⟨J7, j7, u7, k7⟩ := gen J6 nd7 (.lst (natV ((List.range kss.length).drop 1 ++ [kss.length])))
    have ej7 : natV ((List.range kss.length).drop 1) ++ [((kss.length : Nat) : Int)].map V.int = natV ((List.range kss.length).drop 1 ++ [kss.length]) := by
      unfold natV
      rw [List.map_append]
      rfl
    rw [ej7, j7]
    clear j7 ej7
    have u17 := u13.trans (u4.trans (u5.trans (u6.trans u7)))
    refine ⟨_, rfl, a22, _, rfl, SqL.of (u17 _ _ ford), fun d8 nd8 => ?_⟩
    obtain ⟨J8, j8, u8, k8⟩ := gen J7 nd8 (.tup (natV (List.range kss.length)))
    rw [j8]
    clear j8
    refine ⟨_, rfl, _, _, rfl, rfl, _, rfl, a22, _, rfl, SqL.of ((u17.trans u8) _ _ ford), fun d9 nd9 => ?_⟩
    rw [cut_last m2 m6]
    obtain ⟨J9, j9, u9, k9'⟩ := gen J8 nd9 (.lst (natV (List.range (kss.length - 1))))
    rw [j9]
    clear j9
    refine ⟨by repeat' (first | exact trivial | exact ⟨_, rfl⟩ | refine ⟨?_, ?_⟩), fun v10' J10 u10 dv10' => ?_⟩
    obtain ⟨d10, z10, rfl, hd10, hz10⟩ := dt_list dv10'
    replace hd10 := newH_le _ _ hd10
    obtain rfl := vals_of (ns := [0]) hz10
    refine ⟨d9, d10, _, _, rfl, rfl, u10 _ _ k9', hd10, (by rw [sizeLine_eq, lv1, lrm]; show _ + 1 ≤ _; omega), fun d11 nd11 => ?_⟩
    obtain ⟨J11, j11, u11, k11⟩ := gen J10 nd11 (.lst (natV (List.range (kss.length - 1) ++ [0])))
    have ej11 : natV (List.range (kss.length - 1)) ++ [0].map V.int = natV (List.range (kss.length - 1) ++ [0]) := by
      unfold natV
      rw [List.map_append]
      rfl
    rw [ej11, j11]
    clear j11 ej11
    refine ⟨(by show 6 ≤ sizeLine; decide), fun d12 nd12 => ?_⟩
    obtain ⟨J12, j12, u12, k12⟩ := gen J11 nd12 (.lst [.ref d1, .ref d2, .ref d4, .ref d7, .ref d8, .ref d11])
    rw [j12]
    clear j12
    have w2 : Same J2 J12 := u3.trans (u4.trans (u5.trans (u6.trans (u7.trans (u8.trans (u9.trans (u10.trans (u11.trans u12))))))))
    have w1 : Same J1 J12 := u2.trans w2
    have w4 : Same J4 J12 := u5.trans (u6.trans (u7.trans (u8.trans (u9.trans (u10.trans (u11.trans u12))))))
    have w7 : Same J7 J12 := u8.trans (u9.trans (u10.trans (u11.trans u12)))
    have w8 : Same J8 J12 := u9.trans (u10.trans (u11.trans u12))
    have w11 : Same J11 J12 := u12
    have v1' : Same H31 J12 := u1.trans w1
    have v2' : Same J1 J12 := w1
    have v3' : Same J3 J12 := u4.trans w4
    have v6' : Same J6 J12 := u7.trans w7
    have nof : ∀ {b : Addr} {J : Hp}, Same H31 J → J b = none → b ≠ f31 := fun sj e z => by
      have e2 := sj _ _ due31
      rw [← z, e] at e2
      cases e2
    have hidD : Dts K (hid J12 f31) [.ref d1, .ref d2, .ref d4, .ref d7, .ref d8, .ref d11] (ordZ kss.length) := by
      refine .cons (.lst (by rw [hid_ne (nof (Same.refl _) nd1)]; exact w1 _ _ k1) .nil) (.cons (.lst (by rw [hid_ne (nof u1 nd2)]; exact w2 _ _ k2') (dts_nat _)) (.cons (.lst (by rw [hid_ne (nof u13 nd4)]; exact w4 _ _ k4) (dts_nat _)) (.cons (.lst (by rw [hid_ne (nof (u13.trans (u4.trans (u5.trans u6))) nd7)]; exact w7 _ _ k7) (dts_nat _))
        (.cons (.tup (by rw [hid_ne (nof u17 nd8)]; exact w8 _ _ k8) (dts_nat _)) (.cons (.lst (by rw [hid_ne (nof (u17.trans (u8.trans (u9.trans u10))) nd11)]; exact w11 _ _ k11) (dts_nat _)) .nil)))))
    have obz := ordZ_ok m2 m6
    have n12 : d12 ≠ f31 := nof (u17.trans (u8.trans (u9.trans (u10.trans u11)))) nd12
    have due12 := v1' _ _ due31
    have s0J := s031.trans v1'
    refine ⟨d12, rfl, ⟨_, SqL.of k12⟩, ?_⟩
    refine for_list (K := K) (a := d12) (xs := [.ref d1, .ref d2, .ref d4, .ref d7, .ref d8, .ref d11]) (fun i σ H' => ∃ (bd : Option V), σ = [some (.int k), some (.ref c), some (.ref f31), some (.int (kss.length : Nat)), some (.ref c11), bd, none, some (.ref a17), o, some (.ref a22)] ∧ But f31 J12 H' ∧ GL.Due H' f31 (m4 + 17 + i))
      ⟨_, rfl, But.refl, due12⟩ (fun i σ H' _ z => by
        obtain ⟨_, _, b', _⟩ := z
        exact SqL.of (b' _ _ k12 n12)) ?_ ?_
    · rintro i v σ J hi ⟨bd, rfl, bJ, due⟩
      obtain ⟨dv, ev, dth⟩ := hidD.get hi
      have bad := obz dv (List.mem_of_getElem? ev)
      have dt : Dt K J v dv := (dth.same bJ.hid).same hid_same
      have il : i < 6 := (List.getElem?_eq_some_iff.mp hi).1
      have s0 : Same H J := fun b o e => bJ b o (s0J _ _ e) (zf e)
      have g := g0.later s0
      refine ⟨_, rfl, .inl ⟨rfl, _, SqL.of due⟩, ?_⟩
      refine ref_call (d := 3) (v := v) (dv := dv) ("InvalidLot", "lot") (fun _ vs es => vs = [.int k, .ref c, v] ∧ es = [.int k, tabP kss, dv]) (fun _ _ h => h) (fun _ _ h => ⟨_, rfl, h⟩) (fun _ h => ⟨_, rfl, _, rfl, _, rfl, h _ _ _ (Same.refl _) ⟨rfl, rfl⟩⟩) (fun H' vs es s' r => ?_) dt (show_nice bad.2.1) (by decide) (fun J2' sJ => ?_)
      · obtain ⟨rfl, rfl⟩ := r
        have g' := g.later s'
        have d2 := dt.same s'
        exact ⟨(by show 3 ≤ 10; decide), .cons (.int k) (.cons g'.t.dt (.cons d2 .nil)), show3 nk gcn bad.2.1, ref_ord g' d2 bad⟩
      have due2' := sJ _ _ due
      refine ⟨f31, _, _, rfl, rfl, due2', (by rw [sizeLine_eq, List.length_replicate]; omega), _, rfl, fun b o e n => ?_, ?_⟩
      · rw [upd_ne n]
        exact sJ _ _ (bJ b o e n)
      · show upd _ _ _ _ = some (.lst (List.replicate (m4 + 17 + i + 1) _))
        rw [upd_same, ← List.replicate_succ']
    rintro σ J ⟨bd, rfl, bJ, due⟩
    refine ⟨_, rfl, q f31 _ J (fun b o e => bJ b o (s0J _ _ e) (zf e)) nf31 due ?_⟩
    show m4 + 17 + 6 ≤ 1000
    omega
end
end K05

namespace K05
open PySem PySem.Spec PyProof.Rows
open L2
open GL
def spDeedsR (K : PySem.W.Frag) (er : Str → Addr) : Sp := fun vs H Q _ => ∃ (k : Int) (c : Addr) (rs : List Addr) (kss : List (List Int)), vs = [.int k, .ref c] ∧ 2 ≤ k ∧ k ≤ 9 ∧ Tab H c rs kss ∧ Fine k kss ∧ 2 ≤ kss.length ∧ kss.length ≤ 6 ∧
  ∀ (p : Addr) (n : Nat) (H' : Hp), Same H H' → H p = none → Due H' p n → n ≤ 2000 → Q (.ref p) H'
/-- door by door: the error keeps the very list -/
def spItself (K : PySem.W.Frag) (er : Str → Addr) : Sp := fun vs H Q _ => ∃ (d : Nat) (k : Int) (c : Addr) (rs : List Addr) (kss : List (List Int)), vs = [.int k, .ref c, .int d] ∧ d < 9 ∧ 2 ≤ k ∧ k ≤ 9 ∧ Tab H c rs kss ∧ Fine k kss ∧ 2 ≤ kss.length ∧ kss.length ≤ 6 ∧ ∀ H', Same H H' → Q (.bl true) H'
theorem lot_none (n : Int) : lotD n (.list [.none]) = false := by
  show ((_ && _) && (false && _)) = false
  rw [Bool.false_and, Bool.and_false]
theorem comp_none (k : Int) : compOk k (.list [.none]) = false := by
  simp [compOk, rowsOk, rowOk]
theorem ord_none (n : Nat) : OrdBad n (.list [.none]) := ord_bad (o := .none) (List.mem_singleton.mpr rfl) rfl (by decide) fun e he => by
  rw [List.mem_singleton] at he
  subst he
  exact Nice.leaf trivial
theorem shaped_none : SeqAt.shaped (.list [.none, .int 0]) = true := by decide +kernel
theorem eqv_none : PyData.eqv (.list [.none, .int 0]) (.list [.none, .int 0]) = true := by decide +kernel
section
variable {P : Program} {w : World} {K : PySem.W.Frag} {mg : Str → Option Value} {base : Heap}
variable {er : Str → Addr}
abbrev sItself : Stmt := topS 66
abbrev nItself : List Str := ["_law_kinds", "_law_company_here", "_law_door", "_law_bad", "_law_caught", "error"]
theorem scItself : FnScope nItself ["_law_kinds", "_law_company_here", "_law_door"] (defScope sItself) := ⟨rfl, rfl, rfl, by decide +kernel, rfl, by decide +kernel, by decide +kernel⟩
theorem ok_itself {f : Addr} {fd : FuncData} (F : Fun K "_law_itself" "_law_itself" sItself f fd) (T : Bi mg) (ER : Errs sixN K mg er) (Ualikecouples : UseX P w K mg base "alike_couples" ["kinds", "company"] (spAlikeX K er) 7) (Udeeds : UseX P w K mg base "deeds" ["kinds", "company"] (spDeedsX K er) 7) (ULcalled : UseX P w K mg base "_law_called" ["_law_door", "_law_args"] (spCalled K er) 8) : FnOk P w K mg base CX0 9 f fd ["_law_kinds", "_law_company_here", "_law_door"] (spItself K er) := by
  refine F.ok scItself (fun vs H Q E h => ?_) (fun cdv A outer s H vs Q E hr h => ?_)
  · obtain ⟨d, k, c, rs, kss, rfl, _⟩ := h
    rfl
  · obtain ⟨d, k, c, rs, kss, rfl, d9, k2, k9, t, fine, m2, m6, q⟩ := h
    refine ⟨_, (pss_cons (ps_par (i := 3) (j := 4) rfl scItself.nd rfl rfl (by decide) rfl rfl (pa_cons (pe_lst (pa_cons pe_non pa_nil)) (pa_cons pe_non pa_nil)) (by rfl))
      (pss_cons (ps_try_keep (i := 5) rfl rfl scItself.nd rfl rfl ⟨rfl, by decide, .inl ER.tie⟩ rfl takes0
        (fun W pn xe tk _ => (pss_one (ps_if (pt_cmpR op_eq (pv 2) pe_int (nomark _))
          (pss_one (ps_expr (pe_useS Ualikecouples (hr.mono (by decide)) tk (by rfl) (pa_cons (pv 3) (pa_cons (pv 1) pa_nil))))) (pss_one (ps_if (pt_cmpR op_eq (pv 2) pe_int (nomark _))
            (pss_one (ps_expr (pe_useS Udeeds (hr.mono (by decide)) tk (by rfl) (pa_cons (pv 0) (pa_cons (pv 3) pa_nil))))) (pss_one (ps_expr (pe_useS ULcalled hr tk (by rfl) (pa_cons (pe_ix (show IxR _ (rIxL K) from ix_list) (pe_lst (pa_cons pe_int (pa_cons pe_int (pa_cons pe_int (pa_cons pe_int (pa_cons pe_int (pa_cons pe_int (pa_cons pe_int pa_nil)))))))) (pe_op op_sub (pv 2) pe_int) (fun _ _ => rfl)) (pa_cons (pe_lst (pa_cons (pv 0) (pa_cons (pv 1) (pa_cons (pe_ifExp (pt_cmpR op_ne (pv 2) pe_int (nomark _)) (pv 3) (pe_lst (pa_cons (pv 3) pa_nil))) pa_nil)))) pa_nil))))))))))
        (fun a oe cls d pn _ _ => (pss_one (ps_set (i := 4) scItself.nd rfl (Or.inl rfl) (pv 5)))))
      (pss_cons (ps_expr (pe_bm PySem.F.plainAttrs_list PySem.F.slot_list_append PySem.F.type_list_append mt_append (pv 3) (pa_cons pe_int pa_nil)))
      (pss_one (ps_ret (pe_and (pe_cmpR op_notN (pv 4) pe_non (nomark _)) (pe_one (pe_cmpR (op_eqD hr.units) (pe_valX (pv 4)) (pe_lst (pa_cons pe_non (pa_cons pe_int pa_nil))) (nomark _))))))))), ?_⟩
    have kd := kinds_d k2 k9
    have n40 : kss.length ≤ 40 := by omega
    have g0 : GoodC H (.int k) (.ref c) (.int k) k c rs kss := ⟨rfl, rfl, rfl, k2, k9, t, fine, by omega, n40⟩
    refine ⟨one_le, fun b hb0 => ⟨_, _, rfl, ?_⟩⟩
    obtain ⟨H1, e1, s1, f1⟩ := gen H hb0 (.lst [.non])
    rw [e1]
    clear e1
    have db : Dt K H1 (.ref b) (.list [.none]) := .lst f1 (.cons .non .nil)
    obtain rfl | rfl | rfl | rfl | rfl | rfl | rfl | rfl | rfl : d = 0 ∨ d = 1 ∨ d = 2 ∨ d = 3 ∨ d = 4 ∨ d = 5 ∨ d = 6 ∨ d = 7 ∨ d = 8 := by omega
    · refine ⟨_, rfl, rfl, _, rfl, iteT ?_⟩
      refine ⟨_, rfl, _, rfl, _, _, _, _, rfl, db, (t.same s1).dt, .inl ⟨rfl, ?_⟩⟩
      intro H9 e s9 ne he
      refine ⟨true, ER.exm "InvalidNumber" (by decide), (fun z => by cases z), fun _ x nx => ⟨_, rfl, fun nx2 => ?_⟩⟩
      obtain ⟨fI, EC⟩ := ER.own "InvalidNumber" (by decide)
      obtain ⟨H10, e10, s10, f10⟩ := gen H9 nx (Exn (.ref (er "InvalidNumber")) (some e) x)
      show _
      rw [e10]
      clear e10
      have s110 := (Same.refl H1).trans (s9.trans s10)
      have hb10 := s110 _ _ f1
      have he10 := s10 _ _ he
      have xb : x ≠ b := fun z => by
        have z2 := ((Same.refl H1).trans s9) _ _ f1
        rw [← z, nx] at z2
        cases z2
      have eb : e ≠ b := fun z => by
        have z2 := s110 _ _ f1
        rw [← z, he10] at z2
        cases z2
      refine ⟨_, rfl, .inl ⟨rfl, _, SqL.of hb10⟩, b, _, _, rfl, rfl, hb10, (by show 1 < sizeLine; decide), ?_⟩
      obtain ⟨H11, e11⟩ : ∃ H11, upd H10 b (.lst ([.non] ++ [.int 0])) = H11 := ⟨_, rfl⟩
      have fx : H11 x = some (Exn (.ref (er "InvalidNumber")) (some e) x) := by rw [← e11, upd_ne xb]; exact f10
      have fe : H11 e = some (.xd [("value", .ref b)]) := by rw [← e11, upd_ne eb]; exact he10
      have fb : H11 b = some (.lst [.non, .int 0]) := by rw [← e11, upd_same]; rfl
      have s011 : Same H H11 := fun a o z => by
        rw [← e11, upd_ne (ne_of_none z hb0)]
        exact s110 _ _ (s1 _ _ z)
      rw [e11]
      clear e11
      refine ⟨_, rfl, rfl, _, rfl, iteT ?_⟩
      refine ⟨_, rfl, x, er "InvalidNumber", fI, e, "InvalidNumber", .ref b, rfl, EC, fx, fe, (by show 2 ≤ sizeLine; decide), fun l2 nl2 => ?_⟩
      obtain ⟨H12, e12, s12', f12⟩ := gen H11 nl2 (.lst [.non, .int 0])
      rw [e12]
      clear e12
      refine ⟨.list [.none, .int 0], .list [.none, .int 0], .lst (SqL.of (s12' _ _ fb)) (.cons .non (.cons (.int 0) .nil)), .lst (SqL.of f12) (.cons .non (.cons (.int 0) .nil)), shaped_none, shaped_none, ?_⟩
      rw [eqv_none]
      exact q _ (s011.trans s12')
    · refine ⟨_, rfl, rfl, _, rfl, iteF ?_⟩
      refine ⟨_, rfl, rfl, _, rfl, iteT ?_⟩
      refine ⟨_, rfl, _, rfl, _, _, _, _, rfl, .int k, db, .inr ⟨k, rfl, kd, comp_none k, ?_⟩⟩
      intro H9 e s9 ne he
      refine ⟨true, ER.exm "InvalidCompany" (by decide), (fun z => by cases z), fun _ x nx => ⟨_, rfl, fun nx2 => ?_⟩⟩
      obtain ⟨fI, EC⟩ := ER.own "InvalidCompany" (by decide)
      obtain ⟨H10, e10, s10, f10⟩ := gen H9 nx (Exn (.ref (er "InvalidCompany")) (some e) x)
      show _
      rw [e10]
      clear e10
      have s110 := (Same.refl H1).trans (s9.trans s10)
      have hb10 := s110 _ _ f1
      have he10 := s10 _ _ he
      have xb : x ≠ b := fun z => by
        have z2 := ((Same.refl H1).trans s9) _ _ f1
        rw [← z, nx] at z2
        cases z2
      have eb : e ≠ b := fun z => by
        have z2 := s110 _ _ f1
        rw [← z, he10] at z2
        cases z2
      refine ⟨_, rfl, .inl ⟨rfl, _, SqL.of hb10⟩, b, _, _, rfl, rfl, hb10, (by show 1 < sizeLine; decide), ?_⟩
      obtain ⟨H11, e11⟩ : ∃ H11, upd H10 b (.lst ([.non] ++ [.int 0])) = H11 := ⟨_, rfl⟩
      have fx : H11 x = some (Exn (.ref (er "InvalidCompany")) (some e) x) := by rw [← e11, upd_ne xb]; exact f10
      have fe : H11 e = some (.xd [("value", .ref b)]) := by rw [← e11, upd_ne eb]; exact he10
      have fb : H11 b = some (.lst [.non, .int 0]) := by rw [← e11, upd_same]; rfl
      have s011 : Same H H11 := fun a o z => by
        rw [← e11, upd_ne (ne_of_none z hb0)]
        exact s110 _ _ (s1 _ _ z)
      rw [e11]
      clear e11
      refine ⟨_, rfl, rfl, _, rfl, iteT ?_⟩
      refine ⟨_, rfl, x, er "InvalidCompany", fI, e, "InvalidCompany", .ref b, rfl, EC, fx, fe, (by show 2 ≤ sizeLine; decide), fun l2 nl2 => ?_⟩
      obtain ⟨H12, e12, s12', f12⟩ := gen H11 nl2 (.lst [.non, .int 0])
      rw [e12]
      clear e12
      refine ⟨.list [.none, .int 0], .list [.none, .int 0], .lst (SqL.of (s12' _ _ fb)) (.cons .non (.cons (.int 0) .nil)), .lst (SqL.of f12) (.cons .non (.cons (.int 0) .nil)), shaped_none, shaped_none, ?_⟩
      rw [eqv_none]
      exact q _ (s011.trans s12')
    · refine ⟨_, rfl, rfl, _, rfl, iteF ?_⟩
      refine ⟨_, rfl, rfl, _, rfl, iteF ?_⟩
      refine ⟨(by show 7 ≤ sizeLine; decide), fun l hl => ?_⟩
      obtain ⟨H2, e2, s2, f2⟩ := gen H1 hl (.lst [.int 0, .int 2, .int 3, .int 4, .int 6, .int 7, .int 1])
      rw [e2]
      clear e2
      refine ⟨_, rfl, _, _, rfl, rfl, l, _, _, .int 0, rfl, rfl, SqL.of f2, at_of (j := 0) rfl rfl, _, rfl, _, rfl, _, rfl, rfl, _, rfl, iteT ⟨_, rfl, (by show 3 ≤ sizeLine; decide), fun p hp => ?_⟩⟩
      obtain ⟨H3, e3, s3, f3⟩ := gen H2 hp (.lst [.int k, .ref c, .ref b])
      rw [e3]
      clear e3
      have s13 := s2.trans s3
      have g := g0.later (s1.trans s13)
      have d3 := db.same s13
      refine ⟨0, p, _, rfl, f3, (show Refd K er 0 _ H3 "InvalidCouple" (.ref b) from ref_cou (by decide) g d3 rfl) H3 _ (Same.refl _) ?_⟩
      intro H9 e s9 ne he
      refine ⟨true, ER.exm "InvalidCouple" (by decide), (fun z => by cases z), fun _ x nx => ⟨_, rfl, fun nx2 => ?_⟩⟩
      obtain ⟨fI, EC⟩ := ER.own "InvalidCouple" (by decide)
      obtain ⟨H10, e10, s10, f10⟩ := gen H9 nx (Exn (.ref (er "InvalidCouple")) (some e) x)
      show _
      rw [e10]
      clear e10
      have s110 := (s13).trans (s9.trans s10)
      have hb10 := s110 _ _ f1
      have he10 := s10 _ _ he
      have xb : x ≠ b := fun z => by
        have z2 := ((s13).trans s9) _ _ f1
        rw [← z, nx] at z2
        cases z2
      have eb : e ≠ b := fun z => by
        have z2 := s110 _ _ f1
        rw [← z, he10] at z2
        cases z2
      refine ⟨_, rfl, .inl ⟨rfl, _, SqL.of hb10⟩, b, _, _, rfl, rfl, hb10, (by show 1 < sizeLine; decide), ?_⟩
      obtain ⟨H11, e11⟩ : ∃ H11, upd H10 b (.lst ([.non] ++ [.int 0])) = H11 := ⟨_, rfl⟩
      have fx : H11 x = some (Exn (.ref (er "InvalidCouple")) (some e) x) := by rw [← e11, upd_ne xb]; exact f10
      have fe : H11 e = some (.xd [("value", .ref b)]) := by rw [← e11, upd_ne eb]; exact he10
      have fb : H11 b = some (.lst [.non, .int 0]) := by rw [← e11, upd_same]; rfl
      have s011 : Same H H11 := fun a o z => by
        rw [← e11, upd_ne (ne_of_none z hb0)]
        exact s110 _ _ (s1 _ _ z)
      rw [e11]
      clear e11
      refine ⟨_, rfl, rfl, _, rfl, iteT ?_⟩
      refine ⟨_, rfl, x, er "InvalidCouple", fI, e, "InvalidCouple", .ref b, rfl, EC, fx, fe, (by show 2 ≤ sizeLine; decide), fun l2 nl2 => ?_⟩
      obtain ⟨H12, e12, s12', f12⟩ := gen H11 nl2 (.lst [.non, .int 0])
      rw [e12]
      clear e12
      refine ⟨.list [.none, .int 0], .list [.none, .int 0], .lst (SqL.of (s12' _ _ fb)) (.cons .non (.cons (.int 0) .nil)), .lst (SqL.of f12) (.cons .non (.cons (.int 0) .nil)), shaped_none, shaped_none, ?_⟩
      rw [eqv_none]
      exact q _ (s011.trans s12')
    · refine ⟨_, rfl, rfl, _, rfl, iteF ?_⟩
      refine ⟨_, rfl, rfl, _, rfl, iteF ?_⟩
      refine ⟨(by show 7 ≤ sizeLine; decide), fun l hl => ?_⟩
      obtain ⟨H2, e2, s2, f2⟩ := gen H1 hl (.lst [.int 0, .int 2, .int 3, .int 4, .int 6, .int 7, .int 1])
      rw [e2]
      clear e2
      refine ⟨_, rfl, _, _, rfl, rfl, l, _, _, .int 2, rfl, rfl, SqL.of f2, at_of (j := 1) rfl rfl, _, rfl, _, rfl, _, rfl, rfl, _, rfl, iteT ⟨_, rfl, (by show 3 ≤ sizeLine; decide), fun p hp => ?_⟩⟩
      obtain ⟨H3, e3, s3, f3⟩ := gen H2 hp (.lst [.int k, .ref c, .ref b])
      rw [e3]
      clear e3
      have s13 := s2.trans s3
      have g := g0.later (s1.trans s13)
      have d3 := db.same s13
      refine ⟨2, p, _, rfl, f3, (show Refd K er 2 _ H3 "InvalidLot" (.ref b) from ref_lot g d3 (lot_none _)) H3 _ (Same.refl _) ?_⟩
      intro H9 e s9 ne he
      refine ⟨true, ER.exm "InvalidLot" (by decide), (fun z => by cases z), fun _ x nx => ⟨_, rfl, fun nx2 => ?_⟩⟩
      obtain ⟨fI, EC⟩ := ER.own "InvalidLot" (by decide)
      obtain ⟨H10, e10, s10, f10⟩ := gen H9 nx (Exn (.ref (er "InvalidLot")) (some e) x)
      show _
      rw [e10]
      clear e10
      have s110 := (s13).trans (s9.trans s10)
      have hb10 := s110 _ _ f1
      have he10 := s10 _ _ he
      have xb : x ≠ b := fun z => by
        have z2 := ((s13).trans s9) _ _ f1
        rw [← z, nx] at z2
        cases z2
      have eb : e ≠ b := fun z => by
        have z2 := s110 _ _ f1
        rw [← z, he10] at z2
        cases z2
      refine ⟨_, rfl, .inl ⟨rfl, _, SqL.of hb10⟩, b, _, _, rfl, rfl, hb10, (by show 1 < sizeLine; decide), ?_⟩
      obtain ⟨H11, e11⟩ : ∃ H11, upd H10 b (.lst ([.non] ++ [.int 0])) = H11 := ⟨_, rfl⟩
      have fx : H11 x = some (Exn (.ref (er "InvalidLot")) (some e) x) := by rw [← e11, upd_ne xb]; exact f10
      have fe : H11 e = some (.xd [("value", .ref b)]) := by rw [← e11, upd_ne eb]; exact he10
      have fb : H11 b = some (.lst [.non, .int 0]) := by rw [← e11, upd_same]; rfl
      have s011 : Same H H11 := fun a o z => by
        rw [← e11, upd_ne (ne_of_none z hb0)]
        exact s110 _ _ (s1 _ _ z)
      rw [e11]
      clear e11
      refine ⟨_, rfl, rfl, _, rfl, iteT ?_⟩
      refine ⟨_, rfl, x, er "InvalidLot", fI, e, "InvalidLot", .ref b, rfl, EC, fx, fe, (by show 2 ≤ sizeLine; decide), fun l2 nl2 => ?_⟩
      obtain ⟨H12, e12, s12', f12⟩ := gen H11 nl2 (.lst [.non, .int 0])
      rw [e12]
      clear e12
      refine ⟨.list [.none, .int 0], .list [.none, .int 0], .lst (SqL.of (s12' _ _ fb)) (.cons .non (.cons (.int 0) .nil)), .lst (SqL.of f12) (.cons .non (.cons (.int 0) .nil)), shaped_none, shaped_none, ?_⟩
      rw [eqv_none]
      exact q _ (s011.trans s12')
    · refine ⟨_, rfl, rfl, _, rfl, iteF ?_⟩
      refine ⟨_, rfl, rfl, _, rfl, iteF ?_⟩
      refine ⟨(by show 7 ≤ sizeLine; decide), fun l hl => ?_⟩
      obtain ⟨H2, e2, s2, f2⟩ := gen H1 hl (.lst [.int 0, .int 2, .int 3, .int 4, .int 6, .int 7, .int 1])
      rw [e2]
      clear e2
      refine ⟨_, rfl, _, _, rfl, rfl, l, _, _, .int 3, rfl, rfl, SqL.of f2, at_of (j := 2) rfl rfl, _, rfl, _, rfl, _, rfl, rfl, _, rfl, iteT ⟨_, rfl, (by show 3 ≤ sizeLine; decide), fun p hp => ?_⟩⟩
      obtain ⟨H3, e3, s3, f3⟩ := gen H2 hp (.lst [.int k, .ref c, .ref b])
      rw [e3]
      clear e3
      have s13 := s2.trans s3
      have g := g0.later (s1.trans s13)
      have d3 := db.same s13
      refine ⟨3, p, _, rfl, f3, (show Refd K er 3 _ H3 "InvalidLot" (.ref b) from ref_ord g d3 (ord_none _)) H3 _ (Same.refl _) ?_⟩
      intro H9 e s9 ne he
      refine ⟨true, ER.exm "InvalidLot" (by decide), (fun z => by cases z), fun _ x nx => ⟨_, rfl, fun nx2 => ?_⟩⟩
      obtain ⟨fI, EC⟩ := ER.own "InvalidLot" (by decide)
      obtain ⟨H10, e10, s10, f10⟩ := gen H9 nx (Exn (.ref (er "InvalidLot")) (some e) x)
      show _
      rw [e10]
      clear e10
      have s110 := (s13).trans (s9.trans s10)
      have hb10 := s110 _ _ f1
      have he10 := s10 _ _ he
      have xb : x ≠ b := fun z => by
        have z2 := ((s13).trans s9) _ _ f1
        rw [← z, nx] at z2
        cases z2
      have eb : e ≠ b := fun z => by
        have z2 := s110 _ _ f1
        rw [← z, he10] at z2
        cases z2
      refine ⟨_, rfl, .inl ⟨rfl, _, SqL.of hb10⟩, b, _, _, rfl, rfl, hb10, (by show 1 < sizeLine; decide), ?_⟩
      obtain ⟨H11, e11⟩ : ∃ H11, upd H10 b (.lst ([.non] ++ [.int 0])) = H11 := ⟨_, rfl⟩
      have fx : H11 x = some (Exn (.ref (er "InvalidLot")) (some e) x) := by rw [← e11, upd_ne xb]; exact f10
      have fe : H11 e = some (.xd [("value", .ref b)]) := by rw [← e11, upd_ne eb]; exact he10
      have fb : H11 b = some (.lst [.non, .int 0]) := by rw [← e11, upd_same]; rfl
      have s011 : Same H H11 := fun a o z => by
        rw [← e11, upd_ne (ne_of_none z hb0)]
        exact s110 _ _ (s1 _ _ z)
      rw [e11]
      clear e11
      refine ⟨_, rfl, rfl, _, rfl, iteT ?_⟩
      refine ⟨_, rfl, x, er "InvalidLot", fI, e, "InvalidLot", .ref b, rfl, EC, fx, fe, (by show 2 ≤ sizeLine; decide), fun l2 nl2 => ?_⟩
      obtain ⟨H12, e12, s12', f12⟩ := gen H11 nl2 (.lst [.non, .int 0])
      rw [e12]
      clear e12
      refine ⟨.list [.none, .int 0], .list [.none, .int 0], .lst (SqL.of (s12' _ _ fb)) (.cons .non (.cons (.int 0) .nil)), .lst (SqL.of f12) (.cons .non (.cons (.int 0) .nil)), shaped_none, shaped_none, ?_⟩
      rw [eqv_none]
      exact q _ (s011.trans s12')
    · refine ⟨_, rfl, rfl, _, rfl, iteF ?_⟩
      refine ⟨_, rfl, rfl, _, rfl, iteF ?_⟩
      refine ⟨(by show 7 ≤ sizeLine; decide), fun l hl => ?_⟩
      obtain ⟨H2, e2, s2, f2⟩ := gen H1 hl (.lst [.int 0, .int 2, .int 3, .int 4, .int 6, .int 7, .int 1])
      rw [e2]
      clear e2
      refine ⟨_, rfl, _, _, rfl, rfl, l, _, _, .int 4, rfl, rfl, SqL.of f2, at_of (j := 3) rfl rfl, _, rfl, _, rfl, _, rfl, rfl, _, rfl, iteT ⟨_, rfl, (by show 3 ≤ sizeLine; decide), fun p hp => ?_⟩⟩
      obtain ⟨H3, e3, s3, f3⟩ := gen H2 hp (.lst [.int k, .ref c, .ref b])
      rw [e3]
      clear e3
      have s13 := s2.trans s3
      have g := g0.later (s1.trans s13)
      have d3 := db.same s13
      refine ⟨4, p, _, rfl, f3, .inr ⟨by decide, ⟨_, _, _, rfl⟩, ⟨_, _, _, _, _, _, rfl, .int k, g.t.dt, d3, .inr ⟨k, c, rs, kss, g, .inl ⟨comp_none k, ?_⟩⟩⟩⟩⟩
      intro H9 e s9 ne he
      refine ⟨true, ER.exm "InvalidCompany" (by decide), (fun z => by cases z), fun _ x nx => ⟨_, rfl, fun nx2 => ?_⟩⟩
      obtain ⟨fI, EC⟩ := ER.own "InvalidCompany" (by decide)
      obtain ⟨H10, e10, s10, f10⟩ := gen H9 nx (Exn (.ref (er "InvalidCompany")) (some e) x)
      show _
      rw [e10]
      clear e10
      have s110 := (s13).trans (s9.trans s10)
      have hb10 := s110 _ _ f1
      have he10 := s10 _ _ he
      have xb : x ≠ b := fun z => by
        have z2 := ((s13).trans s9) _ _ f1
        rw [← z, nx] at z2
        cases z2
      have eb : e ≠ b := fun z => by
        have z2 := s110 _ _ f1
        rw [← z, he10] at z2
        cases z2
      refine ⟨_, rfl, .inl ⟨rfl, _, SqL.of hb10⟩, b, _, _, rfl, rfl, hb10, (by show 1 < sizeLine; decide), ?_⟩
      obtain ⟨H11, e11⟩ : ∃ H11, upd H10 b (.lst ([.non] ++ [.int 0])) = H11 := ⟨_, rfl⟩
      have fx : H11 x = some (Exn (.ref (er "InvalidCompany")) (some e) x) := by rw [← e11, upd_ne xb]; exact f10
      have fe : H11 e = some (.xd [("value", .ref b)]) := by rw [← e11, upd_ne eb]; exact he10
      have fb : H11 b = some (.lst [.non, .int 0]) := by rw [← e11, upd_same]; rfl
      have s011 : Same H H11 := fun a o z => by
        rw [← e11, upd_ne (ne_of_none z hb0)]
        exact s110 _ _ (s1 _ _ z)
      rw [e11]
      clear e11
      refine ⟨_, rfl, rfl, _, rfl, iteT ?_⟩
      refine ⟨_, rfl, x, er "InvalidCompany", fI, e, "InvalidCompany", .ref b, rfl, EC, fx, fe, (by show 2 ≤ sizeLine; decide), fun l2 nl2 => ?_⟩
      obtain ⟨H12, e12, s12', f12⟩ := gen H11 nl2 (.lst [.non, .int 0])
      rw [e12]
      clear e12
      refine ⟨.list [.none, .int 0], .list [.none, .int 0], .lst (SqL.of (s12' _ _ fb)) (.cons .non (.cons (.int 0) .nil)), .lst (SqL.of f12) (.cons .non (.cons (.int 0) .nil)), shaped_none, shaped_none, ?_⟩
      rw [eqv_none]
      exact q _ (s011.trans s12')
    · refine ⟨_, rfl, rfl, _, rfl, iteF ?_⟩
      refine ⟨_, rfl, rfl, _, rfl, iteF ?_⟩
      refine ⟨(by show 7 ≤ sizeLine; decide), fun l hl => ?_⟩
      obtain ⟨H2, e2, s2, f2⟩ := gen H1 hl (.lst [.int 0, .int 2, .int 3, .int 4, .int 6, .int 7, .int 1])
      rw [e2]
      clear e2
      refine ⟨_, rfl, _, _, rfl, rfl, l, _, _, .int 6, rfl, rfl, SqL.of f2, at_of (j := 4) rfl rfl, _, rfl, _, rfl, _, rfl, rfl, _, rfl, iteT ⟨_, rfl, (by show 3 ≤ sizeLine; decide), fun p hp => ?_⟩⟩
      obtain ⟨H3, e3, s3, f3⟩ := gen H2 hp (.lst [.int k, .ref c, .ref b])
      rw [e3]
      clear e3
      have s13 := s2.trans s3
      have g := g0.later (s1.trans s13)
      have d3 := db.same s13
      refine ⟨6, p, _, rfl, f3, (show Refd K er 6 _ H3 "InvalidDeed" (.ref b) from ref_done g d3 rfl) H3 _ (Same.refl _) ?_⟩
      intro H9 e s9 ne he
      refine ⟨true, ER.exm "InvalidDeed" (by decide), (fun z => by cases z), fun _ x nx => ⟨_, rfl, fun nx2 => ?_⟩⟩
      obtain ⟨fI, EC⟩ := ER.own "InvalidDeed" (by decide)
      obtain ⟨H10, e10, s10, f10⟩ := gen H9 nx (Exn (.ref (er "InvalidDeed")) (some e) x)
      show _
      rw [e10]
      clear e10
      have s110 := (s13).trans (s9.trans s10)
      have hb10 := s110 _ _ f1
      have he10 := s10 _ _ he
      have xb : x ≠ b := fun z => by
        have z2 := ((s13).trans s9) _ _ f1
        rw [← z, nx] at z2
        cases z2
      have eb : e ≠ b := fun z => by
        have z2 := s110 _ _ f1
        rw [← z, he10] at z2
        cases z2
      refine ⟨_, rfl, .inl ⟨rfl, _, SqL.of hb10⟩, b, _, _, rfl, rfl, hb10, (by show 1 < sizeLine; decide), ?_⟩
      obtain ⟨H11, e11⟩ : ∃ H11, upd H10 b (.lst ([.non] ++ [.int 0])) = H11 := ⟨_, rfl⟩
      have fx : H11 x = some (Exn (.ref (er "InvalidDeed")) (some e) x) := by rw [← e11, upd_ne xb]; exact f10
      have fe : H11 e = some (.xd [("value", .ref b)]) := by rw [← e11, upd_ne eb]; exact he10
      have fb : H11 b = some (.lst [.non, .int 0]) := by rw [← e11, upd_same]; rfl
      have s011 : Same H H11 := fun a o z => by
        rw [← e11, upd_ne (ne_of_none z hb0)]
        exact s110 _ _ (s1 _ _ z)
      rw [e11]
      clear e11
      refine ⟨_, rfl, rfl, _, rfl, iteT ?_⟩
      refine ⟨_, rfl, x, er "InvalidDeed", fI, e, "InvalidDeed", .ref b, rfl, EC, fx, fe, (by show 2 ≤ sizeLine; decide), fun l2 nl2 => ?_⟩
      obtain ⟨H12, e12, s12', f12⟩ := gen H11 nl2 (.lst [.non, .int 0])
      rw [e12]
      clear e12
      refine ⟨.list [.none, .int 0], .list [.none, .int 0], .lst (SqL.of (s12' _ _ fb)) (.cons .non (.cons (.int 0) .nil)), .lst (SqL.of f12) (.cons .non (.cons (.int 0) .nil)), shaped_none, shaped_none, ?_⟩
      rw [eqv_none]
      exact q _ (s011.trans s12')
    · refine ⟨_, rfl, rfl, _, rfl, iteF ?_⟩
      refine ⟨_, rfl, rfl, _, rfl, iteF ?_⟩
      refine ⟨(by show 7 ≤ sizeLine; decide), fun l hl => ?_⟩
      obtain ⟨H2, e2, s2, f2⟩ := gen H1 hl (.lst [.int 0, .int 2, .int 3, .int 4, .int 6, .int 7, .int 1])
      rw [e2]
      clear e2
      refine ⟨_, rfl, _, _, rfl, rfl, l, _, _, .int 7, rfl, rfl, SqL.of f2, at_of (j := 5) rfl rfl, _, rfl, _, rfl, _, rfl, rfl, _, rfl, iteF ⟨_, rfl, one_le, fun p0 hp0 => ?_⟩⟩
      obtain ⟨H2', e2', s2', f2'⟩ := gen H2 hp0 (.lst [.ref b])
      rw [e2']
      clear e2'
      refine ⟨(by show 3 ≤ sizeLine; decide), fun p hp => ?_⟩
      obtain ⟨H3, e3, s3, f3⟩ := gen H2' hp (.lst [.int k, .ref c, .ref p0])
      rw [e3]
      clear e3
      have s13 := (s2.trans s2').trans s3
      have g := g0.later (s1.trans s13)
      have d3 := db.same s13
      refine ⟨7, p, _, rfl, f3, (show Refd K er 7 _ H3 "InvalidDeed" (.ref b) from ref_item g (s3 _ _ f2') (.cons d3 .nil) (by show 1 ≤ 1000; decide) (by show 0 < 1; decide) rfl) H3 _ (Same.refl _) ?_⟩
      intro H9 e s9 ne he
      refine ⟨true, ER.exm "InvalidDeed" (by decide), (fun z => by cases z), fun _ x nx => ⟨_, rfl, fun nx2 => ?_⟩⟩
      obtain ⟨fI, EC⟩ := ER.own "InvalidDeed" (by decide)
      obtain ⟨H10, e10, s10, f10⟩ := gen H9 nx (Exn (.ref (er "InvalidDeed")) (some e) x)
      show _
      rw [e10]
      clear e10
      have s110 := (s13).trans (s9.trans s10)
      have hb10 := s110 _ _ f1
      have he10 := s10 _ _ he
      have xb : x ≠ b := fun z => by
        have z2 := ((s13).trans s9) _ _ f1
        rw [← z, nx] at z2
        cases z2
      have eb : e ≠ b := fun z => by
        have z2 := s110 _ _ f1
        rw [← z, he10] at z2
        cases z2
      refine ⟨_, rfl, .inl ⟨rfl, _, SqL.of hb10⟩, b, _, _, rfl, rfl, hb10, (by show 1 < sizeLine; decide), ?_⟩
      obtain ⟨H11, e11⟩ : ∃ H11, upd H10 b (.lst ([.non] ++ [.int 0])) = H11 := ⟨_, rfl⟩
      have fx : H11 x = some (Exn (.ref (er "InvalidDeed")) (some e) x) := by rw [← e11, upd_ne xb]; exact f10
      have fe : H11 e = some (.xd [("value", .ref b)]) := by rw [← e11, upd_ne eb]; exact he10
      have fb : H11 b = some (.lst [.non, .int 0]) := by rw [← e11, upd_same]; rfl
      have s011 : Same H H11 := fun a o z => by
        rw [← e11, upd_ne (ne_of_none z hb0)]
        exact s110 _ _ (s1 _ _ z)
      rw [e11]
      clear e11
      refine ⟨_, rfl, rfl, _, rfl, iteT ?_⟩
      refine ⟨_, rfl, x, er "InvalidDeed", fI, e, "InvalidDeed", .ref b, rfl, EC, fx, fe, (by show 2 ≤ sizeLine; decide), fun l2 nl2 => ?_⟩
      obtain ⟨H12, e12, s12', f12⟩ := gen H11 nl2 (.lst [.non, .int 0])
      rw [e12]
      clear e12
      refine ⟨.list [.none, .int 0], .list [.none, .int 0], .lst (SqL.of (s12' _ _ fb)) (.cons .non (.cons (.int 0) .nil)), .lst (SqL.of f12) (.cons .non (.cons (.int 0) .nil)), shaped_none, shaped_none, ?_⟩
      rw [eqv_none]
      exact q _ (s011.trans s12')
    · refine ⟨_, rfl, rfl, _, rfl, iteF ?_⟩
      refine ⟨_, rfl, rfl, _, rfl, iteF ?_⟩
      refine ⟨(by show 7 ≤ sizeLine; decide), fun l hl => ?_⟩
      obtain ⟨H2, e2, s2, f2⟩ := gen H1 hl (.lst [.int 0, .int 2, .int 3, .int 4, .int 6, .int 7, .int 1])
      rw [e2]
      clear e2
      refine ⟨_, rfl, _, _, rfl, rfl, l, _, _, .int 1, rfl, rfl, SqL.of f2, at_of (j := 6) rfl rfl, _, rfl, _, rfl, _, rfl, rfl, _, rfl, iteT ⟨_, rfl, (by show 3 ≤ sizeLine; decide), fun p hp => ?_⟩⟩
      obtain ⟨H3, e3, s3, f3⟩ := gen H2 hp (.lst [.int k, .ref c, .ref b])
      rw [e3]
      clear e3
      have s13 := s2.trans s3
      have g := g0.later (s1.trans s13)
      have d3 := db.same s13
      refine ⟨1, p, _, rfl, f3, (show Refd K er 1 _ H3 "InvalidCouple" (.ref b) from ref_cou (by decide) g d3 rfl) H3 _ (Same.refl _) ?_⟩
      intro H9 e s9 ne he
      refine ⟨true, ER.exm "InvalidCouple" (by decide), (fun z => by cases z), fun _ x nx => ⟨_, rfl, fun nx2 => ?_⟩⟩
      obtain ⟨fI, EC⟩ := ER.own "InvalidCouple" (by decide)
      obtain ⟨H10, e10, s10, f10⟩ := gen H9 nx (Exn (.ref (er "InvalidCouple")) (some e) x)
      show _
      rw [e10]
      clear e10
      have s110 := (s13).trans (s9.trans s10)
      have hb10 := s110 _ _ f1
      have he10 := s10 _ _ he
      have xb : x ≠ b := fun z => by
        have z2 := ((s13).trans s9) _ _ f1
        rw [← z, nx] at z2
        cases z2
      have eb : e ≠ b := fun z => by
        have z2 := s110 _ _ f1
        rw [← z, he10] at z2
        cases z2
      refine ⟨_, rfl, .inl ⟨rfl, _, SqL.of hb10⟩, b, _, _, rfl, rfl, hb10, (by show 1 < sizeLine; decide), ?_⟩
      obtain ⟨H11, e11⟩ : ∃ H11, upd H10 b (.lst ([.non] ++ [.int 0])) = H11 := ⟨_, rfl⟩
      have fx : H11 x = some (Exn (.ref (er "InvalidCouple")) (some e) x) := by rw [← e11, upd_ne xb]; exact f10
      have fe : H11 e = some (.xd [("value", .ref b)]) := by rw [← e11, upd_ne eb]; exact he10
      have fb : H11 b = some (.lst [.non, .int 0]) := by rw [← e11, upd_same]; rfl
      have s011 : Same H H11 := fun a o z => by
        rw [← e11, upd_ne (ne_of_none z hb0)]
        exact s110 _ _ (s1 _ _ z)
      rw [e11]
      clear e11
      refine ⟨_, rfl, rfl, _, rfl, iteT ?_⟩
      refine ⟨_, rfl, x, er "InvalidCouple", fI, e, "InvalidCouple", .ref b, rfl, EC, fx, fe, (by show 2 ≤ sizeLine; decide), fun l2 nl2 => ?_⟩
      obtain ⟨H12, e12, s12', f12⟩ := gen H11 nl2 (.lst [.non, .int 0])
      rw [e12]
      clear e12
      refine ⟨.list [.none, .int 0], .list [.none, .int 0], .lst (SqL.of (s12' _ _ fb)) (.cons .non (.cons (.int 0) .nil)), .lst (SqL.of f12) (.cons .non (.cons (.int 0) .nil)), shaped_none, shaped_none, ?_⟩
      rw [eqv_none]
      exact q _ (s011.trans s12')
end
end K05

namespace GL
open PySem PySem.Spec PyProof.Rows L2
theorem setT_twice (kss : List (List Int)) (b a : Nat) (v w : Int) : setT (setT kss b a v) b a w = setT kss b a w := by
  unfold setT
  rw [List.set_set]
  by_cases hb : b < kss.length
  · rw [getD_set, if_pos ⟨rfl, hb⟩, List.set_set]
  · rw [List.set_eq_of_length_le (by omega), List.set_eq_of_length_le (by omega)]
theorem setT_same {k : Int} {kss : List (List Int)} (f : Fine k kss) {a b : Nat} (ab : a < b) (bn : b < kss.length) : setT kss b a (tieN kss a b) = kss := by
  have e : tieN kss a b = (kss.getD b []).getD a 0 := by
    unfold tieN
    rw [Nat.max_eq_right (by omega), Nat.min_eq_left (by omega)]
  have la := f.row_len bn
  have e2 : (kss.getD b []).set a ((kss.getD b []).getD a 0) = kss.getD b [] := by
    rw [List.getD_eq_getElem?_getD (l := kss.getD b []), List.getElem?_eq_getElem (by omega)]
    exact List.set_getElem_self _
  unfold setT
  rw [e, e2, List.getD_eq_getElem?_getD, List.getElem?_eq_getElem bn]
  exact List.set_getElem_self _
theorem un_one {k : Int} {kss : List (List Int)} (f : Fine k kss) {a b : Nat} {v : Int} (ab : a < b) (bn : b < kss.length) (ne : v ≠ tieN kss a b) : unK kss (setT kss b a v) = [(a, b)] := by
  have hm : (a, b) ∈ cplTo kss.length kss.length := (cpl_mem _ _ a b).mpr ⟨by omega, ab, bn⟩
  have hf : ∀ c ∈ cplTo kss.length kss.length, (!decide (tieN kss c.2 c.1 = tieN (setT kss b a v) c.2 c.1)) = (c == (a, b)) := fun c hc => by
    obtain ⟨w1, w2, w3⟩ := (cpl_mem _ _ c.1 c.2).mp hc
    rw [tie_setT f ab bn]
    by_cases e : c = (a, b)
    · subst e
      rw [if_pos (by show max b a = b ∧ min b a = a; omega), beq_self_eq_true]
      have : ¬ tieN kss b a = v := fun z => ne (by rw [← z, tieN_comm])
      rw [decide_eq_false this]
      rfl
    · have : ¬ (max c.2 c.1 = b ∧ min c.2 c.1 = a) := fun z => e (Prod.ext (by omega) (by omega))
      rw [if_neg this, decide_eq_true rfl]
      simp [e]
  unfold unK
  rw [List.filter_congr hf]
  have : ∀ l : List (Nat × Nat), l.Nodup → (a, b) ∈ l → l.filter (fun c => c == (a, b)) = [(a, b)] := fun l => by
    induction l with
    | nil => intro _ h; cases h
    | cons x l ih =>
      intro nd h
      obtain ⟨h1, h2⟩ := List.nodup_cons.mp nd
      by_cases e : x = (a, b)
      · subst e
        rw [List.filter_cons, if_pos (by simp)]
        have : l.filter (fun c => c == (a, b)) = [] := List.filter_eq_nil_iff.mpr fun y hy => by
          have : y ≠ (a, b) := fun z => h1 (by rw [← z]; exact hy)
          simp [this]
        rw [this]
      · have hm : (a, b) ∈ l := by
          rcases List.mem_cons.mp h with h | h
          · exact (e h.symm).elim
          · exact h
        rw [List.filter_cons, if_neg (by simp [e])]
        exact ih h2 hm
  exact this _ (cpl_nodup _ _) hm
theorem back_ok {k : Int} {kss : List (List Int)} (f : Fine k kss) {a b : Nat} {v : Int} (ab : a < b) (bn : b < kss.length) (ne : v ≠ tieN kss a b) (al : alikeB kss a b = true) : deedB k (setT kss b a v) (deedP (a, b, tieN kss a b)) = true := by
  have i := tieN_in f (i := a) (j := b) (by omega) bn (by omega)
  have e : tieN (setT kss b a v) a b = v := by rw [tie_setT f ab bn, if_pos (by omega)]
  unfold deedP
  rw [deed_of ab (by rw [setT_len]; exact bn), below_of i.1 i.2, e, decide_eq_false (fun z => ne z.symm), alike_setT f ab bn v al]
  rfl
theorem back_do {k : Int} {kss : List (List Int)} (f : Fine k kss) {a b : Nat} {v : Int} (ab : a < b) (bn : b < kss.length) : doD (setT kss b a v) (deedP (a, b, tieN kss a b)) = kss := by
  show setT (setT kss b a v) b a (tieN kss a b) = kss
  rw [setT_twice, setT_same f ab bn]
theorem among_ok {k : Int} {kss : List (List Int)} (f : Fine k kss) {l : List Nat} {a b i j : Nat} {v : Int} (nd : l.Nodup) (bd : ∀ x ∈ l, x < kss.length) (hi : l[i]? = some a) (hj : l[j]? = some b) (ij : i < j) (v0 : 0 ≤ v) (vk : v < k) (ne : v ≠ tieN kss a b) (al : alikeB kss a b = true) : deedB k (namedK kss l) (.tuple [.int (i : Nat), .int (j : Nat), .int v]) = true := by
  obtain ⟨li, ei⟩ := List.getElem?_eq_some_iff.mp hi
  obtain ⟨lj, ej⟩ := List.getElem?_eq_some_iff.mp hj
  have gi : l.getD i 0 = a := by rw [List.getD_eq_getElem?_getD, hi]; rfl
  have gj : l.getD j 0 = b := by rw [List.getD_eq_getElem?_getD, hj]; rfl
  rw [deed_of ij (by rw [named_len]; exact lj), below_of v0 vk, tie_named li lj (by omega), gi, gj, decide_eq_false ne, alike_named nd bd li lj (by omega) (by rw [ei, ej]; exact al)]
  rfl
def spDeedRight : Sp := fun vs H Q _ => ∃ (g : Addr) (k : Int) (c t : Addr) (n : Nat) (rs : List Addr) (kss : List (List Int)) (d : Nat × Nat × Int), vs = [.ref g, .int k, .ref c, .ref t] ∧ 2 ≤ k ∧ k ≤ 9 ∧ Gen H g (n + 300) ∧ Tab H c rs kss ∧ Fine k kss ∧ 1 ≤ kss.length ∧ kss.length ≤ 40 ∧ c ≠ g ∧ g ∉ rs ∧ H t = some (.tup (deedV3 d)) ∧ deedB k kss (deedP d) = true ∧
  ∀ H', But g H H' → Gen H' g n → Q (.bl true) H'
end GL

namespace K05
open PySem PySem.Spec PyProof.Rows
open L2
open GL
def dA (n k : Int) : List PyData := [.none, .tuple [], .tuple [.int 0, .int 1], .tuple [.int 0, .int 1, .int 0, .int 0], .list [.int 0, .int 1, .int 0], .tuple [.int 1, .int 0, .int 0], .tuple [.int 0, .int 0, .int 0], .tuple [.int 0, .int n, .int 0], .tuple [.int 0, .int 1, .int k], .dict []]
def dB : List PyData := [.tuple [.int 0, .int 1, .int (0 - 1)], .tuple [.int 0, .int 1, .bool true], .tuple [.int 0, .bool true, .int 0], .tuple [.none, .int 1, .int 0], .tuple [.int 0, .int 1, .none], .tuple [.tuple [.int 0, .int 1], .int 0], .str "010", .int 7]
/-- the kind's part of a deed -/
def kindB (k : Int) : PyData → Bool
  | .tuple [_, _, z] => below k z
  | _ => false
theorem deed_kind {k : Int} {kss : List (List Int)} {d : PyData} (h : (headOk kss.length d && kindB k d) = false) : deedB k kss d = false := by
  cases hd : deedB k kss d with
  | false => rfl
  | true =>
    obtain ⟨a, b, v, rfl, ab, bn, v0, v1, _⟩ := deed_nat hd
    rw [show kindB k (.tuple [.int (a : Nat), .int (b : Nat), .int v]) = below k (.int v) from rfl, below_of v0 v1, Bool.and_true] at h
    have h2 := hd
    unfold deedB at h2
    rw [h, Bool.false_and] at h2
    cases h2
/-- no deed, and nice -/
def NoDeed (k : Int) (kss : List (List Int)) (d : PyData) : Prop := deedB k kss d = false ∧ Nice 2 d
theorem dAB_ok {k : Int} {kss : List (List Int)} (k2 : 2 ≤ k) (k9 : k ≤ 9) (m2 : 2 ≤ kss.length) (m6 : kss.length ≤ 6) : ∀ d ∈ dA kss.length k ++ dB, NoDeed k kss d := by
  obtain ⟨n, hn⟩ : ∃ n, kss.length = n := ⟨_, rfl⟩
  rw [hn] at m2 m6 ⊢
  have h1 : (dA n k ++ dB).all (fun d => !(headOk n d && kindB k d) && niceB 2 d) = true := by
    obtain rfl | rfl | rfl | rfl | rfl : n = 2 ∨ n = 3 ∨ n = 4 ∨ n = 5 ∨ n = 6 := by omega
    all_goals obtain rfl | rfl | rfl | rfl | rfl | rfl | rfl | rfl : k = 2 ∨ k = 3 ∨ k = 4 ∨ k = 5 ∨ k = 6 ∨ k = 7 ∨ k = 8 ∨ k = 9 := by omega
    all_goals decide +kernel
  intro d hd
  obtain ⟨a, b⟩ := Bool.and_eq_true_iff.mp (List.all_eq_true.mp h1 d hd)
  refine ⟨deed_kind ?_, nice_of b⟩
  rw [hn]
  cases hh : (headOk n d && kindB k d) with
  | false => rfl
  | true =>
    rw [hh] at a
    cases a
theorem deeds_in {k : Int} {kss : List (List Int)} {a b : Nat} {v : Int} (h : deedB k kss (deedP (a, b, v)) = true) : (a, b, v) ∈ deedsL k kss := by
  obtain ⟨a', b', v', e, ab, bn, v0, v1, ne, al⟩ := deed_nat h
  have e : PyData.tuple [.int (a : Nat), .int (b : Nat), .int v] = .tuple [.int (a' : Nat), .int (b' : Nat), .int v'] := e
  injection e with e
  injection e with e1 e
  injection e with e2 e
  injection e with e3 e
  injection e1 with e1
  injection e2 with e2
  injection e3 with e3
  have ea : a = a' := by omega
  have eb : b = b' := by omega
  subst ea eb e3
  refine List.mem_flatMap.mpr ⟨(a, b), List.mem_filter.mpr ⟨(cpl_mem _ _ a b).mpr ⟨by omega, ab, bn⟩, al⟩, List.mem_map.mpr ⟨v.toNat, List.mem_filter.mpr ⟨List.mem_range.mpr (by omega), ?_⟩, ?_⟩⟩
  · rw [decide_eq_false (by rw [tieN_comm kss b a]; omega)]
    rfl
  · show (a, b, ((v.toNat : Nat) : Int)) = (a, b, v)
    rw [Int.toNat_of_nonneg v0]
theorem nice_deed {a b : Nat} {v : Int} (ha : a < 100) (hb : b < 100) (v0 : 0 ≤ v) (v1 : v < 100) : Nice 1 (deedP (a, b, v)) := by
  refine Nice.tuple (by show 3 ≤ 50; decide) fun e he => ?_
  simp only [List.mem_cons, List.not_mem_nil, or_false] at he
  refine Nice.leaf ?_
  rcases he with rfl | rfl | rfl
  · show ((a : Nat) : Int).natAbs < 2 ^ 100
    omega
  · show ((b : Nat) : Int).natAbs < 2 ^ 100
    omega
  · show v.natAbs < 2 ^ 100
    omega
theorem deeds_dts {K : PySem.W.Frag} {H H' : Hp} : ∀ {ts : List DeedT}, (∀ t ∈ ts, H' t.1 = some (.tup (deedV3 t.2))) → (∀ t ∈ ts, H t.1 = none) → Dts K (newH H H') (ts.map fun t => V.ref t.1) (ts.map fun t => deedP t.2)
  | [], _, _ => .nil
  | t :: ts, h, n => .cons (.tup (by rw [newH_of (n t List.mem_cons_self)]; exact h t List.mem_cons_self) (.cons (.int _) (.cons (.int _) (.cons (.int _) .nil)))) (deeds_dts (fun u hu => h u (List.mem_cons_of_mem _ hu)) fun u hu => n u (List.mem_cons_of_mem _ hu))
theorem cut_head (xs : List V) : cutV xs none (some 1) = xs.take 1 := by
  cases xs with
  | nil => rfl
  | cons x xs => exact cut_to (xs := x :: xs) (i := 1) (by rw [List.length_cons]; omega)
theorem bound2 : Bound 2 = 280253 := by decide +kernel
/-- args with a road of at most four things -/
theorem show_road {k : Int} {kss : List (List Int)} {ds : List PyData} (a : Nice 2 (.int k)) (b : Nice 2 (tabP kss)) (l : ds.length ≤ 4) (h : ∀ d ∈ ds, Nice 2 d) : ShowOk (.list [.int k, tabP kss, .list ds]) := by
  have f2 : ∀ {d : PyData}, Nice 2 d → Fit 280253 3 d := fun n => by
    have := n.shown
    rw [bound2] at this
    exact this
  have fr : Fit (3 + 4 * (280253 + 2)) 4 (.list ds) := Fit.list (fun e he => f2 (h e he)) l
  have fa : Fit (3 + 3 * (3 + 4 * (280253 + 2) + 2)) 5 (.list [.int k, tabP kss, .list ds]) := Fit.list (n := 3) (fun e he => by
    simp only [List.mem_cons, List.not_mem_nil, or_false] at he
    rcases he with rfl | rfl | rfl
    · exact (f2 a).more (by decide) (by decide)
    · exact (f2 b).more (by decide) (by decide)
    · exact fr) (by show 3 ≤ 3; decide)
  exact fa.show (by decide) (by decide)
/-- deeds that lead back, ahead of a road -/
structure Back (K : PySem.W.Frag) (k : Int) (kss : List (List Int)) (H : Hp) (vs : List V) (ds : List PyData) : Prop where
  dt : Dts K H vs ds
  len : ds.length ≤ 2
  fol : ∀ r, followK k kss (ds ++ r) 0 = followK k kss r ds.length
  nice : ∀ d ∈ ds, Nice 2 d
section
variable {P : Program} {w : World} {K : PySem.W.Frag} {mg : Str → Option Value} {base : Heap}
variable {er : Str → Addr}
abbrev sDeedsR : Stmt := topS 65
abbrev nDeedsR : List Str := ["_law_kinds", "_law_company_here", "_law_due", "_law_many", "_law_deeds_there", "_law_wrong", "_law_one", "_law_other", "_law_kind", "_law_good", "_law_bad", "_law_back", "_law_door", "_law_odd", "_law_caught", "error"]
theorem scDeedsR : FnScope nDeedsR ["_law_kinds", "_law_company_here"] (defScope sDeedsR) := ⟨rfl, rfl, rfl, by decide +kernel, rfl, by decide +kernel, by decide +kernel⟩
theorem ok_deedsR {f : Addr} {fd : FuncData} (F : Fun K "_law_deeds_refused" "_law_deeds_refused" sDeedsR f fd) (T : Bi mg) (ER : Errs sixN K mg er) (Uamong : UseX P w K mg base "among" ["kinds", "company", "lot"] (spAmongX K er) 7) (ULtie : Use P w K mg base "_law_tie" ["_law_company_here", "_law_one", "_law_other"] spTie 1) (ULcouples : Use P w K mg base "_law_couples" ["_law_many"] spCouples 1) (ULdeeds : Use P w K mg base "_law_deeds" ["_law_kinds", "_law_company_here"] spDeedsM 3) (ULrefused : UseG P w K mg base "_law_refused" ["_law_door", "_law_args", "_law_name", "_law_field"] (spRefused K er) 9) (ULitself : Use P w K mg base "_law_itself" ["_law_kinds", "_law_company_here", "_law_door"] (spItself K er) 9) : FnG P w K mg base CX0 10 f fd ["_law_kinds", "_law_company_here"] (spDeedsR K er) := by
  refine FnG.mk' F scDeedsR (fun vs H Q E h => ?_) (fun cdv A outer s H vs Q E hgd hr h => ?_)
  · obtain ⟨k, c, rs, kss, rfl, _⟩ := h
    rfl
  · obtain ⟨k, c, rs, kss, rfl, k2, k9, t, fine, m2, m6, q⟩ := h
    have hgd' : (A.deeper (envOfC "_law_deeds_refused" (defScope sDeedsR) s.heap.objs.size f cdv)).guards = some [] := hgd
    have h65 : (A.deeper (envOfC "_law_deeds_refused" (defScope sDeedsR) s.heap.objs.size f cdv)).units + 65 < cLine := by
      have := hr.un
      omega
    refine ⟨_, (pss_cons (ps_asg (pe_tup (pa_cons (pe_lst pa_nil) (pa_cons (pe_callB call_len_seq (by rfl) T.len PySem.boot_len (pa_cons (pv 1) pa_nil)) (pa_cons (pe_use ULdeeds (hr.mono (by decide)) (by rfl) (pa_cons (pv 0) (pa_cons (pv 1) pa_nil))) pa_nil))))
          (pg_tup rfl (pgs_cons (pg_name (i := 2) scDeedsR.nd rfl (Or.inl rfl)) (pgs_cons (pg_name (i := 3) scDeedsR.nd rfl (Or.inl rfl)) (pgs_cons (pg_name (i := 4) scDeedsR.nd rfl (Or.inr rfl)) pgs_nil)))))
      (pss_cons (ps_set (i := 5) scDeedsR.nd rfl (Or.inl rfl) (pd_list (pds_cons (pd_non pe_non) (pds_cons (pd_tup pds_nil (fun _ => by show 0 ≤ sizeLine; decide)) (pds_cons (pd_tup (pds_cons (pd_int pe_int) (pds_cons (pd_int pe_int) pds_nil)) (fun _ => by show 2 ≤ sizeLine; decide)) (pds_cons (pd_tup (pds_cons (pd_int pe_int) (pds_cons (pd_int pe_int) (pds_cons (pd_int pe_int) (pds_cons (pd_int pe_int) pds_nil)))) (fun _ => by show 4 ≤ sizeLine; decide)) (pds_cons (pd_list (pds_cons (pd_int pe_int) (pds_cons (pd_int pe_int) (pds_cons (pd_int pe_int) pds_nil))) (fun _ => by show 3 ≤ sizeLine; decide)) (pds_cons (pd_tup (pds_cons (pd_int pe_int) (pds_cons (pd_int pe_int) (pds_cons (pd_int pe_int) pds_nil))) (fun _ => by show 3 ≤ sizeLine; decide)) (pds_cons (pd_tup (pds_cons (pd_int pe_int) (pds_cons (pd_int pe_int) (pds_cons (pd_int pe_int) pds_nil))) (fun _ => by show 3 ≤ sizeLine; decide)) (pds_cons (pd_tup (pds_cons (pd_int pe_int) (pds_cons (pd_var (pv 3)) (pds_cons (pd_int pe_int) pds_nil))) (fun _ => by show 3 ≤ sizeLine; decide)) (pds_cons (pd_tup (pds_cons (pd_int pe_int) (pds_cons (pd_int pe_int) (pds_cons (pd_var (pv 0)) pds_nil))) (fun _ => by show 3 ≤ sizeLine; decide)) (pds_cons (pd_dct pe_dnewK) pds_nil)))))))))) (fun _ => by show 10 ≤ sizeLine; decide)))
      (pss_cons (ps_set (i := 5) scDeedsR.nd rfl (Or.inl rfl) (pe_op op_cat (pv 5) (pd_list (pds_cons (pd_tup (pds_cons (pd_int pe_int) (pds_cons (pd_int pe_int) (pds_cons (pd_sub (pe_op op_sub pe_int pe_int)) pds_nil))) (fun _ => by show 3 ≤ sizeLine; decide)) (pds_cons (pd_tup (pds_cons (pd_int pe_int) (pds_cons (pd_int pe_int) (pds_cons (pd_bl pe_bl) pds_nil))) (fun _ => by show 3 ≤ sizeLine; decide)) (pds_cons (pd_tup (pds_cons (pd_int pe_int) (pds_cons (pd_bl pe_bl) (pds_cons (pd_int pe_int) pds_nil))) (fun _ => by show 3 ≤ sizeLine; decide)) (pds_cons (pd_tup (pds_cons (pd_non pe_non) (pds_cons (pd_int pe_int) (pds_cons (pd_int pe_int) pds_nil))) (fun _ => by show 3 ≤ sizeLine; decide)) (pds_cons (pd_tup (pds_cons (pd_int pe_int) (pds_cons (pd_int pe_int) (pds_cons (pd_non pe_non) pds_nil))) (fun _ => by show 3 ≤ sizeLine; decide)) (pds_cons (pd_tup (pds_cons (pd_tup (pds_cons (pd_int pe_int) (pds_cons (pd_int pe_int) pds_nil)) (fun _ => by show 2 ≤ sizeLine; decide)) (pds_cons (pd_int pe_int) pds_nil)) (fun _ => by show 2 ≤ sizeLine; decide)) (pds_cons (pd_str pe_str) (pds_cons (pd_int pe_int) pds_nil)))))))) (fun _ => by show 8 ≤ sizeLine; decide))))
      (pss_cons (ps_for PassesOwn.never rfl (pi_list (pe_use ULcouples (hr.mono (by decide)) (by rfl) (pa_cons (pv 3) pa_nil))) (pg_tup rfl (pgs_cons (pg_name (i := 6) scDeedsR.nd rfl (Or.inr rfl)) (pgs_cons (pg_name (i := 7) scDeedsR.nd rfl (Or.inr rfl)) pgs_nil)))
        (pss_one (ps_set (i := 5) scDeedsR.nd rfl (Or.inl rfl) (pe_op op_cat (pv 5) (pe_lc (own := [("_law_kind", 8)]) (g := (gName 8)) (tt := (tTest (tOp (rNotInD K) (tTup (tCons (tVar 6) (tCons (tVar 7) (tCons (tVar 8) tNil)))) (tVar 4)))) (te := (tTup (tCons (tVar 6) (tCons (tVar 7) (tCons (tVar 8) tNil))))) rfl scDeedsR.nd (pi_range1 (by rfl) T.range (pa_cons (pv 0) pa_nil))
            (blkOk_by (N := nDeedsR) (sc := (defScope sDeedsR)) (by decide +kernel)) (fun _ _ _ _ _ => (pg_name (i := 8) scDeedsR.nd rfl (Or.inl rfl))) (fun _ _ _ _ _ => by exact (pts_one (pt_cmpR (op_notInD h65) (pe_tup (pa_cons (pv 6) (pa_cons (pv 7) (pa_cons (pv 8) pa_nil)))) (pv 4) (by rfl))))
            (fun _ _ _ _ _ => by exact (pe_tup (pa_cons (pv 6) (pa_cons (pv 7) (pa_cons (pv 8) pa_nil))))))))))
      (pss_cons (ps_set (i := 9) scDeedsR.nd rfl (Or.inl rfl) (pe_slice sl_list (pv 4) po_none (po_some pe_int)))
      (pss_cons (ps_for PassesOwn.never rfl (pi_list (pv 5)) (pg_name (i := 10) scDeedsR.nd rfl (Or.inl rfl))
        (pss_cons (ps_expr (pe_bm PySem.F.plainAttrs_list PySem.F.slot_list_append PySem.F.type_list_append mt_append (pv 2) (pa_cons (pe_useG ULrefused hgd' hr (by rfl) (pa_cons pe_int (pa_cons (pe_lst (pa_cons (pv 0) (pa_cons (pv 1) (pa_cons (pv 10) pa_nil)))) (pa_cons pe_str (pa_cons (pv 10) pa_nil))))) pa_nil)))
        (pss_cons (ps_expr (pe_bm PySem.F.plainAttrs_list PySem.F.slot_list_append PySem.F.type_list_append mt_append (pv 2) (pa_cons (pe_useG ULrefused hgd' hr (by rfl) (pa_cons pe_int (pa_cons (pe_lst (pa_cons (pv 0) (pa_cons (pv 1) (pa_cons (pe_lst (pa_cons (pv 10) (pa_cons pe_non pa_nil))) pa_nil)))) (pa_cons pe_str (pa_cons (pv 10) pa_nil))))) pa_nil)))
        (pss_cons (ps_set (i := 11) scDeedsR.nd rfl (Or.inl rfl) (pe_op op_cat (pv 9) (pe_lc (own := [("_law_one", 6), ("_law_other", 7), ("_law_kind", 8)]) (g := (gTup K 3 (gCons (gName 6) (gCons (gName 7) (gCons (gName 8) gNil))))) (tt := tYes) (te := (tTup (tCons (tVar 6) (tCons (tVar 7) (tCons (tCall spTie [] E0 (tCons (tVar 1) (tCons (tVar 6) (tCons (tVar 7) tNil)))) tNil))))) rfl scDeedsR.nd (pi_list (pv 9))
            (blkOk_by (N := nDeedsR) (sc := (defScope sDeedsR)) (by decide +kernel)) (fun _ _ _ _ _ => (pg_tup rfl (pgs_cons (pg_name (i := 6) scDeedsR.nd rfl (Or.inl rfl)) (pgs_cons (pg_name (i := 7) scDeedsR.nd rfl (Or.inl rfl)) (pgs_cons (pg_name (i := 8) scDeedsR.nd rfl (Or.inl rfl)) pgs_nil))))) (fun _ _ _ _ _ => by exact pts_nil)
            (fun _ _ _ _ _ => by exact (pe_tup (pa_cons (pv 6) (pa_cons (pv 7) (pa_cons (pe_use ULtie (hr.mono (by decide)) (by rfl) (pa_cons (pv 1) (pa_cons (pv 6) (pa_cons (pv 7) pa_nil)))) pa_nil))))))))
        (pss_one (ps_expr (pe_bm PySem.F.plainAttrs_list PySem.F.slot_list_append PySem.F.type_list_append mt_append (pv 2) (pa_cons (pe_useG ULrefused hgd' hr (by rfl) (pa_cons pe_int (pa_cons (pe_lst (pa_cons (pv 0) (pa_cons (pv 1) (pa_cons (pe_op op_cat (pv 11) (pe_lst (pa_cons (pv 10) (pa_cons (pe_tup pa_nil) pa_nil)))) pa_nil)))) (pa_cons pe_str (pa_cons (pv 10) pa_nil))))) pa_nil))))))))
      (pss_cons (ps_for PassesOwn.never rfl (pi_list (pe_lst (pa_cons pe_non (pa_cons (pe_tup pa_nil) (pa_cons (pe_callTy call_tupL (by rfl) T.tuple (by decide +kernel) (pa_cons (pv 9) pa_nil)) (pa_cons pe_dnewK (pa_cons pe_int (pa_cons pe_str pa_nil)))))))) (pg_name (i := 10) scDeedsR.nd rfl (Or.inl rfl))
        (pss_one (ps_expr (pe_bm PySem.F.plainAttrs_list PySem.F.slot_list_append PySem.F.type_list_append mt_append (pv 2) (pa_cons (pe_useG ULrefused hgd' hr (by rfl) (pa_cons pe_int (pa_cons (pe_lst (pa_cons (pv 0) (pa_cons (pv 1) (pa_cons (pv 10) pa_nil)))) (pa_cons pe_str (pa_cons (pv 10) pa_nil))))) pa_nil)))))
      (pss_cons (ps_set (i := 2) scDeedsR.nd rfl (Or.inl rfl) (pe_op op_cat (pv 2) (pe_lc (own := [("_law_door", 12)]) (g := (gName 12)) (tt := tYes) (te := (tCall (spItself K er) [] E0 (tCons (tVar 0) (tCons (tVar 1) (tCons (tVar 12) tNil))))) rfl scDeedsR.nd (pi_range1 (by rfl) T.range (pa_cons pe_int pa_nil))
            (blkOk_by (N := nDeedsR) (sc := (defScope sDeedsR)) (by decide +kernel)) (fun _ _ _ _ _ => (pg_name (i := 12) scDeedsR.nd rfl (Or.inl rfl))) (fun _ _ _ _ _ => by exact pts_nil)
            (fun _ _ _ _ _ => by exact (pe_use ULitself hr (by rfl) (pa_cons (pv 0) (pa_cons (pv 1) (pa_cons (pv 12) pa_nil))))))))
      (pss_cons (ps_par (i := 13) (j := 14) rfl scDeedsR.nd rfl rfl (by decide) rfl rfl (pa_cons (pd_list (pds_cons (pd_int pe_int) (pds_cons (pd_var (pv 3)) pds_nil)) (fun _ => by show 2 ≤ sizeLine; decide)) (pa_cons pe_non pa_nil)) (by rfl))
      (pss_cons (ps_try_keep (i := 15) rfl rfl scDeedsR.nd rfl rfl ⟨rfl, by decide, .inl (ER.mg (x := "InvalidLot") (by decide))⟩ rfl takes0
        (fun W pn xe tk _ => (pss_one (ps_expr (pe_useS Uamong (hr.mono (by decide)) tk (by rfl) (pa_cons (pv 0) (pa_cons (pv 1) (pa_cons (pv 13) pa_nil)))))))
        (fun a oe cls d pn _ _ => (pss_one (ps_set (i := 14) scDeedsR.nd rfl (Or.inl rfl) (pv 15)))))
      (pss_cons (ps_expr (pe_bm PySem.F.plainAttrs_list PySem.F.slot_list_append PySem.F.type_list_append mt_append (pv 13) (pa_cons pe_non pa_nil)))
      (pss_one (ps_ret (pe_op op_cat (pv 2) (pe_lst (pa_cons (pe_and (pe_cmpR op_notN (pv 14) pe_non (nomark _)) (pe_one (pe_cmpR (op_eqD hr.units) (pe_valX (pv 14)) (pd_list (pds_cons (pd_int pe_int) (pds_cons (pd_var (pv 3)) (pds_cons (pd_non pe_non) pds_nil))) (fun _ => by show 3 ≤ sizeLine; decide)) (nomark _)))) pa_nil)))))))))))))))), ?_⟩
    have kd := kinds_d k2 k9
    have nk : Nice 2 (.int k) := nice_int (by omega) (by omega)
    have lr : rs.length = kss.length := t.len
    have n40 : kss.length ≤ 40 := by omega
    have gcn : Nice 2 (tabP kss) := nice_tab2 fine k9 n40
    have g0 : GoodC H (.int k) (.ref c) (.int k) k c rs kss := ⟨rfl, rfl, rfl, k2, k9, t, fine, by omega, n40⟩
    refine ⟨Nat.zero_le _, fun f0 nf0 => ?_⟩
    obtain ⟨H1, e1, s1, f1⟩ := gen H nf0 (.lst [])
    rw [e1]
    clear e1
    refine ⟨_, rfl, c, _, rfl, .inl (SqL.of (s1 _ _ t.top)), _, rfl, _, rfl, k, c, rs, kss, rfl, k2, k9, t.same s1, fine, n40, fun p ts H2 s2 np D ed => ⟨(by show 3 ≤ sizeLine; decide), fun tp htp => ?_⟩⟩
    obtain ⟨H3, e3, s3, f3⟩ := gen H2 htp (.tup [.ref f0, .int ((rs.map V.ref).length : Nat), .ref p])
    rw [e3]
    clear e3
    refine ⟨tp, _, rfl, SqT.of f3, rfl, _, _, rfl, _, _, rfl, _, _, rfl, rfl, ?_⟩
    rw [show ((rs.map V.ref).length : Int) = ((kss.length : Nat) : Int) by rw [List.length_map, lr]]
    have D3 := D.same s3
    have zf : ∀ {b : Addr} {o : HO}, H b = some o → b ≠ f0 := fun e z => by
      rw [z, nf0] at e
      cases e
    have z1 : ∀ {b : Addr}, H1 b = none → b ≠ f0 := fun e z => by
      rw [z, f1] at e
      cases e
    have nob : ∀ {b : Addr} {o : HO} {J : Hp}, Same H1 J → J b = none → b ≠ f0 := fun sj e z => by
      have e2 := sj _ _ f1
      rw [← z, e] at e2
      cases e2
    have s13 := s2.trans s3
    refine ⟨by repeat' (first | exact trivial | exact ⟨_, rfl⟩ | refine ⟨?_, ?_⟩), fun v4 H4 s4 dv4 => ?_⟩
    obtain ⟨a4, x4, rfl, ha4, hx4⟩ := dt_list dv4
    replace ha4 := newH_le _ _ ha4
    replace hx4 : Dts K (newH H1 H4) x4 (dA kss.length k) := Dts.same (newH_in s13) _ _ hx4
    have l4 : x4.length = 10 := hx4.length
    refine ⟨_, rfl, by repeat' (first | exact trivial | exact ⟨_, rfl⟩ | refine ⟨?_, ?_⟩), fun v5 H5 s5 dv5 => ?_⟩
    obtain ⟨a5, x5, rfl, ha5, hx5⟩ := dt_list dv5
    replace ha5 := newH_le _ _ ha5
    have s14 := s13.trans s4
    have s15 := s14.trans s5
    replace hx5 : Dts K (newH H1 H5) x5 dB := Dts.same (newH_in s14) _ _ hx5
    have l5 : x5.length = 8 := hx5.length
    refine ⟨a4, a5, x4, x5, rfl, rfl, s5 _ _ ha4, ha5, (by rw [sizeLine_eq]; omega), fun a6 na6 => ?_⟩
    obtain ⟨H6, e6, s6, f6⟩ := gen H5 na6 (.lst (x4 ++ x5))
    rw [e6]
    clear e6
    have hx6 : Dts K (newH H1 H6) (x4 ++ x5) (dA kss.length k ++ dB) := Dts.app (Dts.same (newH_fwd (s5.trans s6)) _ _ hx4) (Dts.same (newH_fwd s6) _ _ hx5)
    have s16 := s15.trans s6
    have bad6 := dAB_ok (kss := kss) k2 k9 m2 m6
    have ld6 : (dA kss.length k ++ dB).length = 18 := rfl
    generalize hX6 : x4 ++ x5 = x6 at hx6 f6
    generalize hD6 : dA (kss.length : Nat) k ++ dB = d6 at hx6 bad6 ld6
    refine ⟨_, rfl, kss.length, rfl, by omega, fun L us H7 s7 nL R ec => ⟨L, rfl, ⟨_, SqL.of R.top⟩, ?_⟩⟩
    have s17 := s16.trans s7
    have lus : us.length ≤ 36 := by
      have h1 := congrArg List.length ec
      rw [List.length_map] at h1
      rw [h1]
      exact Nat.le_trans (cpl_len kss.length kss.length) (Nat.mul_le_mul m6 m6)
    refine for_list (K := K) (a := L) (xs := us.map fun t => V.ref t.1) (fun i σ H' => ∃ (wr : Addr) (y z : Option V) (xs : List V) (ds : List PyData), σ = [some (.int k), some (.ref c), some (.ref f0), some (.int (kss.length : Nat)), some (.ref p), some (.ref wr), y, z, none, none, none, none, none, none, none, none] ∧ Same H7 H' ∧ H' wr = some (.lst xs) ∧ Dts K (newH H1 H') xs ds ∧ (∀ d ∈ ds, NoDeed k kss d) ∧ ds.length ≤ 18 + 9 * i ∧ wr ≠ f0)
      ⟨a6, _, _, _, d6, rfl, Same.refl _, s7 _ _ f6, Dts.same (newH_fwd s7) _ _ hx6, bad6, by omega, nob (o := .lst []) s15 na6⟩ (fun i σ H' _ z => by
        obtain ⟨_, _, _, _, _, _, s', _⟩ := z
        exact SqL.of (s' _ _ R.top)) ?_ ?_
    · rintro i v σ H8 hi ⟨wr, y, z, xs, ds, rfl, s8, hw, dts, bads, ld, _⟩
      rw [List.getElem?_map] at hi
      cases et : us[i]? with
      | none =>
        rw [et] at hi
        cases hi
      | some u =>
        rw [et] at hi
        cases hi
        obtain ⟨ad, a, b⟩ := u
        have um := List.mem_of_getElem? et
        have il := (List.getElem?_eq_some_iff.mp et).1
        have ea : (a, b) ∈ cplTo kss.length kss.length := by
          rw [← ec]
          exact List.mem_map_of_mem (f := (·.2)) um
        obtain ⟨w1, w2, w3⟩ := (cpl_mem _ _ a b).mp ea
        refine ⟨ad, _, rfl, SqT.of (s8 _ _ (R.row _ um)), rfl, _, _, rfl, _, _, rfl, rfl, ?_⟩
        have s18 := s17.trans s8
        have lx := dts.length
        refine ⟨_, rfl, _, rfl, k, rfl, by omega, by omega, fun Dd hDd => ?_⟩
        have TH := (D3.same (s4.trans (s5.trans (s6.trans (s7.trans s8)))))
        refine lc_it (walk_nat (n := k.toNat)) (fun j H' => Same H8 H' ∧ ∃ d8, Deeds H1 H' Dd d8 ∧ d8.length ≤ j ∧ ∀ t ∈ d8, NoDeed k kss (deedP t.2))
          ⟨same_new hDd, [], ⟨upd_same, by simp, by simp⟩, Nat.le_refl _, by simp⟩ (fun _ _ _ _ => trivial) ?_ ?_
        · rintro j y' H9 H10 hj ⟨s9, d8, U8, l8, b8⟩ ⟨rfl, rfl⟩
          refine ⟨rfl, ?_⟩
          refine ⟨_, rfl, _, rfl, _, rfl, (by show 3 ≤ sizeLine; decide), fun p1 hp1 => ?_⟩
          obtain ⟨H11, e11, s11, f11⟩ := gen H10 hp1 (.tup (deedV3 (a, b, ((j : Nat) : Int))))
          show _
          have e11' : upd H10 p1 (.tup [.int (a : Nat), .int (b : Nat), .int (j : Nat)]) = H11 := e11
          rw [e11']
          clear e11 e11'
          have T11 := TH.same (s9.trans s11)
          have pl : plainD (.list (ts.map fun t => deedP t.2)) = true := plainA_of fun x hx => by
            obtain ⟨t, _, rfl⟩ := List.mem_map.mp hx
            rfl
          refine ⟨_, rfl, deedP (a, b, ((j : Nat) : Int)), ts.map (fun t => deedP t.2), Dt.toDp (deedP (a, b, ((j : Nat) : Int))) _ rfl (.tup f11 (.cons (.int _) (.cons (.int _) (.cons (.int _) .nil)))), Dt.toDp _ _ pl (.lst T11.top (Dts.same newH_le _ _ (deeds_dts (H := H1) T11.row T11.new))), plain_shaped rfl (Nat.le_trans (Nice.shown (nice_deed (show a < 100 by omega) (show b < 100 by omega) (show (0 : Int) ≤ ((j : Nat) : Int) by omega) (by omega))).2.2 (by decide)), ?_, _, rfl, ?_⟩
          · refine plain_shaped pl ?_
            simp only [PyData.depth]
            have := depthAll_of (n := 2) (ds := ts.map fun t => deedP t.2) fun e he => by
              obtain ⟨t, ht, rfl⟩ := List.mem_map.mp he
              have hm : t.2 ∈ deedsL k kss := by
                rw [← ed]
                exact List.mem_map_of_mem (f := (·.2)) ht
              obtain ⟨q1, q2, q3, q4, _⟩ := deeds_mem (by omega) hm
              exact (Nice.shown (nice_deed (show t.2.1 < 100 by omega) (show t.2.2.1 < 100 by omega) q3 (by omega))).2.2
            omega
          · cases ha : (ts.map fun t => deedP t.2).any fun z => PyData.eqv z (deedP (a, b, ((j : Nat) : Int))) with
            | true =>
              exact iteF ⟨s9.trans s11, d8, U8.same s11, by omega, b8⟩
            | false =>
              refine iteT ⟨_, rfl, _, rfl, _, rfl, (by show 3 ≤ sizeLine; decide), fun p2 hp2 => ?_⟩
              obtain ⟨H12, e12, s12, f12⟩ := gen H11 hp2 (.tup (deedV3 (a, b, ((j : Nat) : Int))))
              have e12' : upd H11 p2 (.tup [.int (a : Nat), .int (b : Nat), .int (j : Nat)]) = H12 := e12
              rw [e12']
              clear e12 e12'
              have s812 := s9.trans (s11.trans s12)
              refine ⟨_, (s11.trans s12) _ _ U8.top, ?_, fun x o e' => ?_, d8 ++ [(p2, (a, b, ((j : Nat) : Int)))], (U8.same s11).push s12 hp2 ((s18.trans (s9.trans s11)).free hp2) f12, ?_, ?_⟩
              · rw [List.length_map, sizeLine_eq]
                omega
              · rw [upd_ne (ne_of_none e' hDd)]
                exact s812 _ _ e'
              · rw [List.length_append, List.length_singleton]
                omega
              · intro t ht
                rcases List.mem_append.mp ht with ht | ht
                · exact b8 t ht
                · rw [List.mem_singleton] at ht
                  subst ht
                  refine ⟨?_, Nice.up (nice_deed (by omega) (by omega) (by omega) (by omega))⟩
                  cases hd : deedB k kss (deedP (a, b, ((j : Nat) : Int))) with
                  | false => rfl
                  | true =>
                    exfalso
                    have hm := deeds_in hd
                    rw [← ed] at hm
                    obtain ⟨t0, ht0, et0⟩ := List.mem_map.mp hm
                    rw [List.any_eq_false] at ha
                    refine ha (deedP t0.2) (List.mem_map_of_mem (f := fun t : DeedT => deedP t.2) ht0) ?_
                    rw [et0]
                    exact (plain_eqv _ _ rfl rfl).mpr rfl
        · rintro H9 ⟨s9, d8, U8, l8, b8⟩
          refine ⟨wr, Dd, _, _, rfl, rfl, s9 _ _ hw, U8.top, (by rw [sizeLine_eq, List.length_map]; omega), fun w2 nw2 => ?_⟩
          obtain ⟨H10, e10, s10, f10⟩ := gen H9 nw2 (.lst (xs ++ d8.map fun t => V.ref t.1))
          rw [e10]
          clear e10
          refine ⟨w2, _, _, _, ds ++ d8.map (fun t => deedP t.2), rfl, s8.trans (s9.trans s10), f10, Dts.app (Dts.same (newH_fwd (s9.trans s10)) _ _ dts) (deeds_dts (fun t ht => s10 _ _ (U8.row t ht)) U8.new), ?_, ?_, nob (o := .lst []) (s18.trans s9) nw2⟩
          · intro d hd
            rcases List.mem_append.mp hd with hd | hd
            · exact bads d hd
            · obtain ⟨t, ht, rfl⟩ := List.mem_map.mp hd
              exact b8 t ht
          · rw [List.length_append, List.length_map]
            omega
    rintro σ H8 ⟨wr, y, z, xs, ds, rfl, s8, hw, dts, bads, ld, wrf⟩
    rw [List.length_map] at ld
    have s18 := s17.trans s8
    have lx := dts.length
    have TH := D3.same (s4.trans (s5.trans (s6.trans (s7.trans s8))))
    refine ⟨_, rfl, 1, rfl, p, _, rfl, SqL.of TH.top, fun ga nga => ?_⟩
    rw [cut_head]
    obtain ⟨H9, e9, s9, f9⟩ := gen H8 nga (.lst ((ts.map fun t => V.ref t.1).take 1))
    rw [e9]
    clear e9
    have s19 := s18.trans s9
    have T9 := TH.same s9
    have dts9 : Dts K (newH H1 H9) xs ds := Dts.same (newH_fwd s9) _ _ dts
    have hw9 := s9 _ _ hw
    have f19 := s19 _ _ f1
    have gaf : ga ≠ f0 := nob (o := .lst []) s18 nga
    have nB : ∀ {J : Hp}, But f0 H9 J → Same (newH H1 H9) J := fun bj b o e => by
      cases h : H1 b with
      | none =>
        rw [newH_of h] at e
        exact bj b o e (z1 h)
      | some o1 =>
        rw [newH_old h] at e
        cases e
    have s09 := s1.trans s19
    have nB0 : ∀ {J : Hp}, But f0 H9 J → Same H J := fun bj b o e => bj b o (s09 _ _ e) (zf e)
    refine ⟨_, rfl, wr, rfl, ⟨_, SqL.of hw9⟩, ?_⟩
    refine for_list (K := K) (a := wr) (xs := xs) (fun i σ H' => ∃ (bd bk : Option V), σ = [some (.int k), some (.ref c), some (.ref f0), some (.int (kss.length : Nat)), some (.ref p), some (.ref wr), y, z, none, some (.ref ga), bd, bk, none, none, none, none] ∧ But f0 H9 H' ∧ GL.Due H' f0 (3 * i))
      ⟨_, _, rfl, But.refl, f19⟩ (fun i σ H' _ z => by
        obtain ⟨_, _, _, b', _⟩ := z
        exact SqL.of (b' _ _ hw9 wrf)) ?_ ?_
    · rintro i v σ J hi ⟨bd, bk, rfl, bJ, due⟩
      obtain ⟨dv, ev, dt0⟩ := dts9.get hi
      have bad := bads dv (List.mem_of_getElem? ev)
      have dt : Dt K J v dv := dt0.same (nB bJ)
      have il : i < 400 := by
        have := (List.getElem?_eq_some_iff.mp hi).1
        omega
      have g := g0.later (nB0 bJ)
      have fol0 : ∀ r n, followK k kss (dv :: r) n = (kss, n) := fun r n => by
        rw [follow_cons, bad.1]
        rfl
      refine ⟨_, rfl, .inl ⟨rfl, _, SqL.of due⟩, ?_⟩
      refine ref_call (d := 6) (v := v) (dv := dv) ("InvalidDeed", "deed") (fun _ vs es => vs = [.int k, .ref c, v] ∧ es = [.int k, tabP kss, dv]) (fun _ _ h => h) (fun _ _ h => ⟨_, rfl, h⟩) (fun _ h => ⟨_, rfl, _, rfl, _, rfl, h _ _ _ (Same.refl _) ⟨rfl, rfl⟩⟩) (fun H' vs es s' r => ?_) dt (show_nice bad.2) (by decide) (fun J1 sJ => ?_)
      · obtain ⟨rfl, rfl⟩ := r
        have g' := g.later s'
        have d2 := dt.same s'
        exact ⟨(by show 3 ≤ 10; decide), .cons (.int k) (.cons g'.t.dt (.cons d2 .nil)), show3 nk gcn bad.2, ref_done g' d2 bad.1⟩
      have due1 := sJ _ _ due
      refine ⟨f0, _, _, rfl, rfl, due1, (by rw [sizeLine_eq, List.length_replicate]; omega), ?_⟩
      rw [← List.replicate_succ']
      obtain ⟨J2, j2⟩ : ∃ J2, upd J1 f0 (.lst (List.replicate (3 * i + 1) (.bl true))) = J2 := ⟨_, rfl⟩
      have b2 : But f0 H9 J2 := fun b o e n => by
        rw [← j2, upd_ne n]
        exact sJ _ _ (bJ b o e n)
      have due2 : GL.Due J2 f0 (3 * i + 1) := by
        rw [← j2]
        exact upd_same
      rw [j2]
      clear j2
      have dt2 : Dt K J2 v dv := dt0.same (nB b2)
      have g2 := g0.later (nB0 b2)
      refine ⟨_, rfl, .inl ⟨rfl, _, SqL.of due2⟩, ?_⟩
      refine ref_call (d := 7) (v := v) (dv := dv) ("InvalidDeed", "deed") (fun H' vs es => ∃ q1, vs = [.int k, .ref c, .ref q1] ∧ es = [.int k, tabP kss, .list [dv, .none]] ∧ H' q1 = some (.lst [v, .non])) (fun _ _ h => h) (fun _ _ h => ⟨_, rfl, h⟩)
        (fun Q' h => ⟨_, rfl, _, rfl, _, rfl, (by show 2 ≤ sizeLine; decide), fun q1 hq1 => h _ _ _ (same_new hq1) ⟨q1, rfl, rfl, upd_same⟩⟩) (fun H' vs es s' r => ?_) dt2 (show_nice bad.2) (by decide) (fun J3 sJ3 => ?_)
      · obtain ⟨q1, rfl, rfl, hq⟩ := r
        have g' := g2.later s'
        have d2 := dt2.same s'
        have dl : Dts K H' [v, .non] [dv, .none] := .cons d2 (.cons .non .nil)
        exact ⟨(by show 3 ≤ 10; decide), .cons (.int k) (.cons g'.t.dt (.cons (.lst hq dl) .nil)), show_road nk gcn (by show 2 ≤ 4; decide) (nices2 bad.2 nice_non), ref_item g' hq dl (by show 2 ≤ 1000; decide) (by rw [fol0]; show 0 < 2; decide) (by rw [fol0]; rfl)⟩
      have due3 := sJ3 _ _ due2
      refine ⟨f0, _, _, rfl, rfl, due3, (by rw [sizeLine_eq, List.length_replicate]; omega), ?_⟩
      rw [← List.replicate_succ']
      obtain ⟨J4, j4⟩ : ∃ J4, upd J3 f0 (.lst (List.replicate (3 * i + 1 + 1) (.bl true))) = J4 := ⟨_, rfl⟩
      have b4 : But f0 H9 J4 := fun b o e n => by
        rw [← j4, upd_ne n]
        exact sJ3 _ _ (b2 b o e n)
      have due4 : GL.Due J4 f0 (3 * i + 1 + 1) := by
        rw [← j4]
        exact upd_same
      rw [j4]
      clear j4
      have ga4 := b4 _ _ f9 gaf
      have rowJ : ∀ {J : Hp}, But f0 H9 J → ∀ t ∈ ts, J t.1 = some (.tup (deedV3 t.2)) := fun bj t ht => bj _ _ (T9.row t ht) (z1 (T9.new t ht))
      have tk : (ts.map fun t => V.ref t.1).take 1 = (ts.take 1).map fun t => V.ref t.1 := List.map_take.symm
      have l1 : ((ts.take 1).map fun t => V.ref t.1).length ≤ 1 := by
        rw [List.length_map, List.length_take]
        omega
      rw [tk] at ga4
      refine ⟨_, rfl, _, rfl, ga, rfl, ⟨_, SqL.of ga4⟩, fun Db hDb => ?_⟩
      refine lc_list (K := K) (a := ga) (xs := (ts.take 1).map fun t => V.ref t.1) (fun n H' => Same J4 H' ∧ ∃ d8, Deeds J4 H' Db d8 ∧ d8.map (·.2) = ((ts.take 1).take n).map fun t => (t.2.1, t.2.2.1, tieN kss t.2.1 t.2.2.1))
        ⟨same_new hDb, [], ⟨upd_same, by simp, by simp⟩, by simp⟩ (fun n H' _ z => SqL.of (z.1 _ _ ga4)) ?_ ?_
      · rintro n v1 H5' hn ⟨s5', d8, U8, e8⟩
        rw [List.getElem?_map] at hn
        cases et : (ts.take 1)[n]? with
        | none =>
          rw [et] at hn
          cases hn
        | some t1 =>
          rw [et] at hn
          cases hn
          have tm : t1 ∈ ts := List.mem_of_mem_take (List.mem_of_getElem? et)
          have hm : t1.2 ∈ deedsL k kss := by
            rw [← ed]
            exact List.mem_map_of_mem (f := (·.2)) tm
          obtain ⟨q1, q2, q3, q4, q5, q6⟩ := deeds_mem (by omega) hm
          have t5 := (t.same (nB0 b4)).same s5'
          refine ⟨t1.1, _, rfl, SqT.of (s5' _ _ (rowJ b4 t1 tm)), rfl, _, _, rfl, _, _, rfl, _, _, rfl, rfl, rfl, yes_of ?_⟩
          refine ⟨_, rfl, _, rfl, _, rfl, _, rfl, _, rfl, c, rs, kss, k, t1.2.1, t1.2.2.1, rfl, t5, fine, by omega, q2, by omega, (by show 3 ≤ sizeLine; decide), fun p5 hp5 => ?_⟩
          obtain ⟨H6', e6', s6', f6'⟩ := gen H5' hp5 (.tup (deedV3 (t1.2.1, t1.2.2.1, tieN kss t1.2.1 t1.2.2.1)))
          have e6 : upd H5' p5 (.tup [.int (t1.2.1 : Nat), .int (t1.2.2.1 : Nat), .int (tieN kss t1.2.1 t1.2.2.1)]) = H6' := e6'
          rw [e6]
          clear e6 e6'
          refine ⟨_, s6' _ _ U8.top, ?_, fun x o e' => ?_, d8 ++ [(p5, (t1.2.1, t1.2.2.1, tieN kss t1.2.1 t1.2.2.1))], U8.push s6' hp5 (s5'.free hp5) f6', ?_⟩
          · have h1 := congrArg List.length e8
            rw [List.length_map, List.length_map, List.length_take, List.length_take] at h1
            rw [List.length_map, sizeLine_eq]
            omega
          · rw [upd_ne (ne_of_none e' hDb)]
            exact s6' _ _ (s5' _ _ e')
          · rw [List.map_append, e8, List.take_add_one (l := List.take 1 ts) (i := n), et, List.map_append]
            rfl
      rintro J5 ⟨s5', d8, U8, e8⟩
      have e9' : d8.map (·.2) = (ts.take 1).map fun t => (t.2.1, t.2.2.1, tieN kss t.2.1 t.2.2.1) := by
        rw [e8, List.length_map, List.take_length]
      have l8 : d8.length ≤ 1 := by
        have h1 := congrArg List.length e9'
        rw [List.length_map, List.length_map, List.length_take] at h1
        omega
      refine ⟨ga, Db, _, _, rfl, rfl, s5' _ _ ga4, U8.top, (by rw [sizeLine_eq, List.length_map] at *; rw [List.length_map]; omega), fun bk2 nbk => ?_⟩
      obtain ⟨J6, j6, s6', f6'⟩ := gen J5 nbk (.lst (((ts.take 1).map fun t => V.ref t.1) ++ d8.map fun t => V.ref t.1))
      rw [j6]
      clear j6
      have s46 := s5'.trans s6'
      have bkK : Back K k kss J6 (((ts.take 1).map fun t => V.ref t.1) ++ d8.map fun t => V.ref t.1) ((ts.take 1).map (fun t => deedP t.2) ++ d8.map fun t => deedP t.2) := by
        refine ⟨Dts.app (Dts.same newH_le _ _ (deeds_dts (H := H1) (fun t ht => s46 _ _ (rowJ b4 t (List.mem_of_mem_take ht))) fun t ht => T9.new t (List.mem_of_mem_take ht))) (Dts.same newH_le _ _ (deeds_dts (H := J4) (fun t ht => s6' _ _ (U8.row t ht)) U8.new)), ?_, ?_, ?_⟩
        · rw [List.length_append, List.length_map, List.length_map, List.length_take]
          omega
        · intro r
          have ed8 : d8.map (fun t => deedP t.2) = (d8.map (·.2)).map deedP := by rw [List.map_map]; rfl
          rw [ed8, e9']
          cases hts : ts with
          | nil => rfl
          | cons t1 ts' =>
            have tm : t1 ∈ ts := by
              rw [hts]
              exact List.mem_cons_self
            have hm : t1.2 ∈ deedsL k kss := by
              rw [← ed]
              exact List.mem_map_of_mem (f := (·.2)) tm
            obtain ⟨q1, q2, q3, q4, q5, q6⟩ := deeds_mem (by omega) hm
            have okd := deed_ok (kss := kss) (by omega : (0 : Int) ≤ k) hm
            show followK k kss (deedP t1.2 :: deedP (t1.2.1, t1.2.2.1, tieN kss t1.2.1 t1.2.2.1) :: r) 0 = followK k kss r 2
            rw [follow_cons, okd, if_pos rfl, do_deed, follow_cons, back_ok fine q1 q2 q5 q6, if_pos rfl, back_do fine q1 q2]
        · intro d hd
          have h8 : ∀ t ∈ d8, Nice 2 (deedP t.2) := fun t ht => by
            have h1 : t.2 ∈ (ts.take 1).map fun t => (t.2.1, t.2.2.1, tieN kss t.2.1 t.2.2.1) := by
              rw [← e9']
              exact List.mem_map_of_mem (f := (·.2)) ht
            obtain ⟨t1, ht1, et⟩ := List.mem_map.mp h1
            have hm : t1.2 ∈ deedsL k kss := by
              rw [← ed]
              exact List.mem_map_of_mem (f := (·.2)) (List.mem_of_mem_take ht1)
            obtain ⟨q1, q2, q3, q4, q5, q6⟩ := deeds_mem (by omega) hm
            rw [← et]
            obtain ⟨tb1, tb2⟩ := tieN_in fine (show t1.2.1 < kss.length by omega) q2 (by omega)
            exact Nice.up (nice_deed (by omega) (by omega) tb1 (by omega))
          rcases List.mem_append.mp hd with hd | hd
          · obtain ⟨t1, ht1, rfl⟩ := List.mem_map.mp hd
            have hm : t1.2 ∈ deedsL k kss := by
              rw [← ed]
              exact List.mem_map_of_mem (f := (·.2)) (List.mem_of_mem_take ht1)
            obtain ⟨q1, q2, q3, q4, q5, q6⟩ := deeds_mem (by omega) hm
            exact Nice.up (show Nice 1 (deedP (t1.2.1, t1.2.2.1, t1.2.2.2)) from nice_deed (by omega) (by omega) q3 (by omega))
          · obtain ⟨t1, ht1, rfl⟩ := List.mem_map.mp hd
            exact h8 t1 ht1
      generalize ((ts.take 1).map fun t => V.ref t.1) ++ d8.map (fun t => V.ref t.1) = bV at bkK f6'
      generalize (ts.take 1).map (fun t => deedP t.2) ++ d8.map (fun t => deedP t.2) = bD at bkK
      have b6 : But f0 H9 J6 := fun b o e n => s46 _ _ (b4 b o e n)
      have dt6 : Dt K J6 v dv := dt0.same (nB b6)
      have g6 := g0.later (nB0 b6)
      have due6 := s46 _ _ due4
      have lbV := bkK.dt.length
      have lbD := bkK.len
      refine ⟨_, rfl, .inl ⟨rfl, _, SqL.of due6⟩, ?_⟩
      refine ref_call (d := 7) (v := v) (dv := dv) ("InvalidDeed", "deed") (fun H' vs es => ∃ q3 uu, vs = [.int k, .ref c, .ref q3] ∧ es = [.int k, tabP kss, .list (bD ++ [dv, .tuple []])] ∧ H' q3 = some (.lst (bV ++ [v, .ref uu])) ∧ H' uu = some (.tup [])) (fun _ _ h => h) (fun _ _ h => ⟨_, rfl, h⟩)
        (fun Q' h => ⟨_, rfl, _, rfl, _, rfl, _, rfl, Nat.zero_le _, fun u1 hu1 => ?_⟩) (fun H' vs es s' r => ?_) dt6 (show_nice bad.2) (by decide) (fun J7 sJ7 => ?_)
      · obtain ⟨K1, k1, r1, h1⟩ := gen J6 hu1 (.tup [])
        rw [k1]
        clear k1
        refine ⟨(by show 2 ≤ sizeLine; decide), fun u2 hu2 => ?_⟩
        obtain ⟨K2, k2', r2, h2⟩ := gen K1 hu2 (.lst [v, .ref u1])
        rw [k2']
        clear k2'
        refine ⟨bk2, u2, _, _, rfl, rfl, (r1.trans r2) _ _ f6', h2, (by rw [sizeLine_eq, lbV]; show _ + 2 ≤ _; omega), fun u3 hu3 => ?_⟩
        exact h _ _ _ ((r1.trans r2).trans (same_new hu3)) ⟨u3, u1, rfl, rfl, upd_same, (same_new hu3) _ _ (r2 _ _ h1)⟩
      · obtain ⟨q3, uu, rfl, rfl, hq, hu⟩ := r
        have g' := g6.later s'
        have d2 := dt6.same s'
        have dl : Dts K H' (bV ++ [v, .ref uu]) (bD ++ [dv, .tuple []]) := Dts.app (Dts.same s' _ _ bkK.dt) (.cons d2 (.cons (.tup hu .nil) .nil))
        have fo : followK k kss (bD ++ [dv, .tuple []]) 0 = (kss, bD.length) := by rw [bkK.fol, fol0]
        refine ⟨(by show 3 ≤ 10; decide), .cons (.int k) (.cons g'.t.dt (.cons (.lst hq dl) .nil)), show_road nk gcn (by rw [List.length_append]; show _ + 2 ≤ 4; omega) ?_, ref_item g' hq dl (by rw [List.length_append]; show _ + 2 ≤ 1000; omega) (by rw [fo, List.length_append]; show _ < _ + 2; omega) ?_⟩
        · intro d hd
          rcases List.mem_append.mp hd with hd | hd
          · exact bkK.nice d hd
          · exact nices2 bad.2 (Nice.tuple (by decide) (by simp)) d hd
        · rw [fo]
          show (bV ++ [v, .ref uu])[bD.length]? = some v
          rw [List.getElem?_append_right (Nat.le_of_eq lbV), lbV, Nat.sub_self]
          rfl
      have due7 := sJ7 _ _ due6
      refine ⟨f0, _, _, rfl, rfl, due7, (by rw [sizeLine_eq, List.length_replicate]; omega), _, _, rfl, fun b o e n => ?_, ?_⟩
      · rw [upd_ne n]
        exact sJ7 _ _ (b6 b o e n)
      · show upd _ _ _ _ = some (.lst (List.replicate (3 * (i + 1)) _))
        rw [upd_same, ← List.replicate_succ']
        rfl
    rintro σ J ⟨bd, bk, rfl, bJ, due⟩
    have lxs : 3 * xs.length ≤ 1030 := by omega
    generalize 3 * xs.length = mm at due lxs
    have tk : (ts.map fun t => V.ref t.1).take 1 = (ts.take 1).map fun t => V.ref t.1 := List.map_take.symm
    have gaJ := bJ _ _ f9 gaf
    rw [tk] at gaJ
    have nofJ : ∀ {b : Addr} {J' : Hp}, Same J J' → J' b = none → b ≠ f0 := fun sj e z => by
      have e2 := sj _ _ due
      rw [← z, e] at e2
      cases e2
    refine ⟨Nat.zero_le _, fun u1 hu1 => ?_⟩
    obtain ⟨J1, j1, r1, h1⟩ := gen J hu1 (.tup [])
    rw [j1]
    clear j1
    refine ⟨_, rfl, ga, _, rfl, SqL.of (r1 _ _ gaJ), fun u2 hu2 => ?_⟩
    obtain ⟨J2, j2, r2, h2⟩ := gen J1 hu2 (.tup ((ts.take 1).map fun t => V.ref t.1))
    rw [j2]
    clear j2
    intro u3 hu3
    obtain ⟨J3, j3, r3, h3⟩ := gen J2 hu3 (.dK [])
    rw [j3]
    clear j3
    refine ⟨(by show 6 ≤ sizeLine; decide), fun u4 hu4 => ?_⟩
    obtain ⟨J4, j4, r4, h4⟩ := gen J3 hu4 (.lst [.non, .ref u1, .ref u2, .ref u3, .int 7, .str "road"])
    rw [j4]
    clear j4
    have rr2 := r1.trans r2
    have rr3 := rr2.trans r3
    have rr4 := rr3.trans r4
    have due4 := rr4 _ _ due
    have hidD : Dts K (hid J4 f0) [.non, .ref u1, .ref u2, .ref u3, .int 7, .str "road"] [.none, .tuple [], .tuple ((ts.take 1).map fun t => deedP t.2), .dict [], .int 7, .str "road"] := by
      have dd : Dts K (hid J4 f0) ((ts.take 1).map fun t => V.ref t.1) ((ts.take 1).map fun t => deedP t.2) := by
        have a := deeds_dts (K := K) (H := H1) (H' := J4) (ts := ts.take 1) (fun t ht => rr4 _ _ (bJ _ _ (T9.row t (List.mem_of_mem_take ht)) (z1 (T9.new t (List.mem_of_mem_take ht))))) fun t ht => T9.new t (List.mem_of_mem_take ht)
        refine Dts.same (fun b o e => ?_) _ _ a
        have nb : b ≠ f0 := fun z => by
          rw [z, newH_old f1] at e
          cases e
        rw [hid_ne nb]
        exact newH_le _ _ e
      exact .cons .non (.cons (.tup (by rw [hid_ne (nofJ (Same.refl _) hu1)]; exact (r2.trans (r3.trans r4)) _ _ h1) .nil) (.cons (.tup (by rw [hid_ne (nofJ r1 hu2)]; exact (r3.trans r4) _ _ h2) dd) (.cons (.dct (by rw [hid_ne (nofJ rr2 hu3)]; exact r4 _ _ h3)) (.cons (.int 7) (.cons (.str "road") .nil)))))
    have okR : ∀ d ∈ ([.none, .tuple [], .tuple ((ts.take 1).map fun t => deedP t.2), .dict [], .int 7, .str "road"] : List PyData), isList d = false ∧ Nice 2 d := by
      intro d hd
      simp only [List.mem_cons, List.not_mem_nil, or_false] at hd
      rcases hd with rfl | rfl | rfl | rfl | rfl | rfl
      · exact ⟨rfl, nice_non⟩
      · exact ⟨rfl, nice_of (by decide +kernel)⟩
      · refine ⟨rfl, Nice.tuple (by rw [List.length_map, List.length_take]; omega) fun e he => ?_⟩
        obtain ⟨t1, ht1, rfl⟩ := List.mem_map.mp he
        have hm : t1.2 ∈ deedsL k kss := by
          rw [← ed]
          exact List.mem_map_of_mem (f := (·.2)) (List.mem_of_mem_take ht1)
        obtain ⟨q1, q2, q3, q4, q5, q6⟩ := deeds_mem (by omega) hm
        exact (show Nice 1 (deedP (t1.2.1, t1.2.2.1, t1.2.2.2)) from nice_deed (by omega) (by omega) q3 (by omega))
      · exact ⟨rfl, nice_of (by decide +kernel)⟩
      · exact ⟨rfl, nice_of (by decide +kernel)⟩
      · exact ⟨rfl, nice_of (by decide +kernel)⟩
    have u4f : u4 ≠ f0 := nofJ rr3 hu4
    have s0J : ∀ {J' : Hp}, But f0 J4 J' → Same H J' := fun bj b o e => bj b o (rr4 _ _ (nB0 bJ b o e)) (zf e)
    refine ⟨u4, rfl, ⟨_, SqL.of h4⟩, ?_⟩
    refine for_list (K := K) (a := u4) (xs := [.non, .ref u1, .ref u2, .ref u3, .int 7, .str "road"]) (fun i σ H' => ∃ (bd : Option V), σ = [some (.int k), some (.ref c), some (.ref f0), some (.int (kss.length : Nat)), some (.ref p), some (.ref wr), y, z, none, some (.ref ga), bd, bk, none, none, none, none] ∧ But f0 J4 H' ∧ GL.Due H' f0 (mm + i))
      ⟨_, rfl, But.refl, due4⟩ (fun i σ H' _ z => by
        obtain ⟨_, _, b', _⟩ := z
        exact SqL.of (b' _ _ h4 u4f)) ?_ ?_
    · rintro i v σ Ja hi ⟨bd, rfl, ba, dua⟩
      obtain ⟨dv, ev, dth⟩ := hidD.get hi
      obtain ⟨nl, nv⟩ := okR dv (List.mem_of_getElem? ev)
      have dt : Dt K Ja v dv := (dth.same ba.hid).same hid_same
      have il : i < 6 := (List.getElem?_eq_some_iff.mp hi).1
      have g := g0.later (s0J ba)
      refine ⟨_, rfl, .inl ⟨rfl, _, SqL.of dua⟩, ?_⟩
      refine ref_call (d := 7) (v := v) (dv := dv) ("InvalidDeed", "deed") (fun _ vs es => vs = [.int k, .ref c, v] ∧ es = [.int k, tabP kss, dv]) (fun _ _ h => h) (fun _ _ h => ⟨_, rfl, h⟩) (fun _ h => ⟨_, rfl, _, rfl, _, rfl, h _ _ _ (Same.refl _) ⟨rfl, rfl⟩⟩) (fun H' vs es s' r => ?_) dt (show_nice nv) (by decide) (fun Jb sJ => ?_)
      · obtain ⟨rfl, rfl⟩ := r
        have g' := g.later s'
        have d2 := dt.same s'
        exact ⟨(by show 3 ≤ 10; decide), .cons (.int k) (.cons g'.t.dt (.cons d2 .nil)), show3 nk gcn nv, ref_road g' d2 nl⟩
      have dub := sJ _ _ dua
      refine ⟨f0, _, _, rfl, rfl, dub, (by rw [sizeLine_eq, List.length_replicate]; omega), _, rfl, fun b o e n => ?_, ?_⟩
      · rw [upd_ne n]
        exact sJ _ _ (ba b o e n)
      · show upd _ _ _ _ = some (.lst (List.replicate (mm + i + 1) _))
        rw [upd_same, ← List.replicate_succ']
    rintro σ Ja ⟨bd, rfl, ba, dua⟩
    have s0a := s0J ba
    replace dua : GL.Due Ja f0 (mm + 6) := dua
    refine ⟨_, rfl, 9, rfl, by decide, by decide, fun Dd hDd => ?_⟩
    refine lc_vals (walk_nat (n := 9)) (fun _ => V.bl true) hDd (by rw [sizeLine_eq]; decide) (fun _ _ => trivial) ?_ ?_
    · rintro j x Jb Jc N hj sb ⟨rfl, rfl⟩ hN
      refine gName_by ⟨rfl, ?_⟩
      exact ⟨_, rfl, _, rfl, _, rfl, j, k, c, rs, kss, rfl, hj, k2, k9, (t.same s0a).same sb, fine, m2, m6, fun H' s' => hN H' s'⟩
    intro Jb sb hb
    refine ⟨f0, Dd, _, _, rfl, rfl, sb _ _ dua, hb, (by rw [sizeLine_eq, List.length_replicate, List.length_map, List.length_range]; omega), fun f5 nf5 => ?_⟩
    rw [due_cat]
    obtain ⟨Jc, jc, sc, due5⟩ := gen Jb nf5 (.lst (List.replicate (mm + 6 + 9) (.bl true)))
    rw [jc]
    clear jc
    have s0c := s0a.trans (sb.trans sc)
    have nf5' : H f5 = none := (s0a.trans sb).free nf5
    refine ⟨by repeat' (first | exact trivial | exact ⟨_, rfl⟩ | refine ⟨?_, ?_⟩), fun vo Jd sd dvo => ⟨_, _, rfl, ?_⟩⟩
    obtain ⟨ao, xo, rfl, hao, hxo⟩ := dt_list dvo
    have nao : Jc ao = none := by
      cases h : Jc ao with
      | none => rfl
      | some o =>
        rw [newH_old h] at hao
        cases hao
    replace hao := newH_le _ _ hao
    obtain rfl := vals_of (ns := [0, ((kss.length : Nat) : Int)]) hxo
    have s0d := s0c.trans sd
    have gd := g0.later s0d
    have dto : Dt K Jd (.ref ao) (.list [.int 0, .int (kss.length : Nat)]) := .lst hao (.cons (.int 0) (.cons (.int _) .nil))
    have lbad := (lot_ok m2 m6 (.list [.int 0, .int (kss.length : Nat)]) (by unfold lotB; simp)).1
    refine ⟨_, rfl, _, rfl, _, rfl, _, _, _, _, _, _, rfl, .int k, gd.t.dt, dto, .inr ⟨k, c, rs, kss, gd, lbad, ?_⟩⟩
    intro H9' e s9' ne he
    refine ⟨true, (ER.exy "InvalidLot" (by decide) "InvalidLot" (by decide)).trans (by rw [decide_eq_true rfl]), (fun z => by cases z), fun _ x nx => ⟨_, rfl, fun nx2 => ?_⟩⟩
    obtain ⟨fI, EC⟩ := ER.own "InvalidLot" (by decide)
    obtain ⟨H10', e10, s10', f10⟩ := gen H9' nx (Exn (.ref (er "InvalidLot")) (some e) x)
    show _
    rw [e10]
    clear e10
    have hb9 := s9' _ _ hao
    have hb10 := s10' _ _ hb9
    have he10 := s10' _ _ he
    have xb : x ≠ ao := fun z => by
      rw [← z, nx] at hb9
      cases hb9
    have eb : e ≠ ao := fun z => by
      rw [← z, he10] at hb10
      cases hb10
    have f5o : f5 ≠ ao := fun z => by
      rw [← z, due5] at nao
      cases nao
    refine ⟨_, rfl, .inl ⟨rfl, _, SqL.of hb10⟩, ao, _, _, rfl, rfl, hb10, (by show 2 < sizeLine; decide), ?_⟩
    obtain ⟨H11', e11⟩ : ∃ H11', upd H10' ao (.lst ([0, ((kss.length : Nat) : Int)].map V.int ++ [.non])) = H11' := ⟨_, rfl⟩
    have fx : H11' x = some (Exn (.ref (er "InvalidLot")) (some e) x) := by rw [← e11, upd_ne xb]; exact f10
    have fe : H11' e = some (.xd [("value", .ref ao)]) := by rw [← e11, upd_ne eb]; exact he10
    have fb : H11' ao = some (.lst [.int 0, .int (kss.length : Nat), .non]) := by rw [← e11, upd_same]; rfl
    have fd : H11' f5 = some (.lst (List.replicate (mm + 6 + 9) (.bl true))) := by
      rw [← e11, upd_ne f5o]
      exact (sd.trans (s9'.trans s10')) _ _ due5
    have s011 : Same H H11' := fun a o z => by
      rw [← e11, upd_ne (ne_of_none (s0c _ _ z) nao)]
      exact (s9'.trans s10') _ _ (s0d _ _ z)
    rw [e11]
    clear e11
    refine ⟨_, rfl, ⟨_, rfl, rfl, _, rfl, iteT ?_⟩⟩
    refine ⟨_, rfl, x, er "InvalidLot", fI, e, "InvalidLot", .ref ao, rfl, EC, fx, fe, by repeat' (first | exact trivial | exact ⟨_, rfl⟩ | refine ⟨?_, ?_⟩), fun v2' Jz sz dz => ?_⟩
    obtain ⟨a2', x2', rfl, hz2, hzx⟩ := dt_list dz
    replace hz2 := newH_le _ _ hz2
    replace hzx : Dts K Jz x2' [.int 0, .int (kss.length : Nat), .none] := Dts.same newH_le _ _ hzx
    have pl : plainD (.list [.int 0, .int (kss.length : Nat), .none]) = true := rfl
    have shp : SeqAt.shaped (.list [.int 0, .int (kss.length : Nat), .none]) = true := plain_shaped pl (by
      have := (Nice.list (n := 0) (ds := [.int 0, .int (kss.length : Nat), .none]) (by show 3 ≤ 50; decide) (fun e he => by
        simp only [List.mem_cons, List.not_mem_nil, or_false] at he
        rcases he with rfl | rfl | rfl
        · show (0 : Int).natAbs < 2 ^ 100
          decide
        · show ((kss.length : Nat) : Int).natAbs < 2 ^ 100
          omega
        · trivial)).shown.2.2
      omega)
    refine ⟨_, _, Dt.toDp _ _ pl (.lst (sz _ _ fb) (.cons (.int 0) (.cons (.int _) (.cons .non .nil)))), Dt.toDp _ _ pl (.lst hz2 hzx), shp, shp, ?_⟩
    rw [(plain_eqv _ _ pl pl).mpr rfl]
    refine ⟨one_le, fun l1 nl1 => ?_⟩
    obtain ⟨Jy, jy, sy, fy⟩ := gen Jz nl1 (.lst [.bl true])
    rw [jy]
    clear jy
    have sfin := s011.trans (sz.trans sy)
    refine ⟨f5, l1, _, _, rfl, rfl, (sz.trans sy) _ _ fd, fy, (by rw [sizeLine_eq, List.length_replicate, List.length_singleton]; omega), fun p2 np2 => ?_⟩
    refine q p2 (mm + 6 + 9 + 1) _ (sfin.trans (same_new np2)) (sfin.free np2) ?_ (by omega)
    unfold GL.Due
    rw [upd_same, ← List.replicate_succ']
end
end K05

namespace K05
open PySem PySem.Spec PyProof.Rows
open L2
open GL
section
variable {P : Program} {w : World} {K : PySem.W.Frag} {mg : Str → Option Value} {base : Heap}
variable {er : Str → Addr}
abbrev sLaw : Stmt := topS 67
abbrev nLaw : List Str := ["_law_script", "_law_generator_here", "_law_kinds", "_law_many", "_law_company_here", "_law_due", "_law_item"]
theorem scLaw : FnScope nLaw ["_law_script"] (defScope sLaw) := ⟨rfl, rfl, rfl, by decide +kernel, rfl, by decide +kernel, by decide +kernel⟩
theorem ok_law {f : Addr} {fd : FuncData} (F : Fun K "law" "law" sLaw f fd) (T : Bi mg) (ULrandom : Use P w K mg base "_law_random" ["_law_generator_here", "_law_bound"] spRandom 2) (ULgenerator : Use P w K mg base "_law_generator" ["_law_script", "_law_index"] (spGen K) 2) (ULcompany : Use P w K mg base "_law_company" ["_law_generator_here", "_law_kinds", "_law_many"] spCompany 4) (ULheadsrefused : UseG P w K mg base "_law_heads_refused" ["_law_kinds", "_law_company_here"] (spHeads K er) 10) (ULrestrefused : UseG P w K mg base "_law_rest_refused" ["_law_kinds", "_law_company_here"] (spRest K er) 10) (ULdeedsrefused : UseG P w K mg base "_law_deeds_refused" ["_law_kinds", "_law_company_here"] (spDeedsR K er) 10) : FnG P w K mg base CX0 11 f fd ["_law_script"] (spLaw K) := by
  refine FnG.mk' F scLaw (fun vs H Q E h => ?_) (fun cdv A outer s H vs Q E hgd hr h => ?_)
  · obtain ⟨a, ns, rfl, _⟩ := h
    rfl
  · obtain ⟨a, ns, rfl, hS, q⟩ := h
    have hgd' : (A.deeper (envOfC "law" (defScope sLaw) s.heap.objs.size f cdv)).guards = some [] := hgd
    refine ⟨_, (pss_cons (ps_set (i := 1) scLaw.nd rfl (Or.inl rfl) (pe_use ULgenerator (hr.mono (by decide)) (by rfl) (pa_cons (pv 0) (pa_cons pe_int pa_nil))))
      (pss_cons (ps_par (i := 2) (j := 3) rfl scLaw.nd rfl rfl (by decide) rfl rfl (pa_cons (pe_op op_add pe_int (pe_use ULrandom (hr.mono (by decide)) (by rfl) (pa_cons (pv 1) (pa_cons pe_int pa_nil)))) (pa_cons (pe_op op_add pe_int (pe_use ULrandom (hr.mono (by decide)) (by rfl) (pa_cons (pv 1) (pa_cons pe_int pa_nil)))) pa_nil)) (by rfl))
      (pss_cons (ps_set (i := 4) scLaw.nd rfl (Or.inl rfl) (pe_use ULcompany (hr.mono (by decide)) (by rfl) (pa_cons (pv 1) (pa_cons (pv 2) (pa_cons (pv 3) pa_nil)))))
      (pss_cons (ps_set (i := 5) scLaw.nd rfl (Or.inl rfl) (pe_op op_cat (pe_op op_cat (pe_useG ULheadsrefused hgd' hr (by rfl) (pa_cons (pv 2) (pa_cons (pv 4) pa_nil))) (pe_useG ULrestrefused hgd' hr (by rfl) (pa_cons (pv 2) (pa_cons (pv 4) pa_nil)))) (pe_useG ULdeedsrefused hgd' hr (by rfl) (pa_cons (pv 2) (pa_cons (pv 4) pa_nil)))))
      (pss_one (ps_ret (pe_cmpR (op_eqNil hr.units) (pe_lc (own := [("_law_item", 6)]) (g := (gName 6)) (tt := (tTest (tOp rNotB (tVar 6) (tC (.bl true))))) (te := (tVar 6)) rfl scLaw.nd (pi_list (pv 5))
            (blkOk_by (N := nLaw) (sc := (defScope sLaw)) (by decide +kernel)) (fun _ _ _ _ _ => (pg_name (i := 6) scLaw.nd rfl (Or.inl rfl))) (fun _ _ _ _ _ => by exact (pts_one (pt_cmpR op_notBl (pv 6) pe_bl (nomark _))))
            (fun _ _ _ _ _ => by exact (pv 6))) (pe_lst pa_nil) (nomark _)))))))), ?_⟩
    refine ⟨_, rfl, a, ns, 0, rfl, by decide, hS, fun g H1 s1 ng G1 => ?_⟩
    refine ⟨_, rfl, g, 8, 999995, rfl, by decide, by decide, G1, fun r1 H2 r10 r11 G2 b2 => ⟨_, _, rfl, rfl, ?_⟩⟩
    refine ⟨_, rfl, g, 5, 999990, rfl, by decide, by decide, G2, fun r2 H3 r20 r21 G3 b3 => ⟨_, _, rfl, rfl, _, _, rfl, ?_⟩⟩
    obtain ⟨m, hm⟩ : ∃ m : Nat, 2 + r2 = (m : Int) := ⟨(2 + r2).toNat, by omega⟩
    refine ⟨_, rfl, _, rfl, _, rfl, g, 2 + r1, m, 979990, ?_, by omega, by omega, by omega, by omega, G3, fun c H4 b4 G4 co => ?_⟩
    · show [V.ref g, .int (2 + r1), .int (2 + r2)] ++ [] = _
      rw [hm]
      rfl
    obtain ⟨rs, kss, t, lk, fine, nn⟩ := co
    have k2 : 2 ≤ 2 + r1 := by omega
    have k9 : 2 + r1 ≤ 9 := by omega
    have m2 : 2 ≤ kss.length := by omega
    have m6 : kss.length ≤ 6 := by omega
    refine ⟨_, rfl, _, rfl, 2 + r1, c, rs, kss, rfl, k2, k9, t, fine, m2, m6, fun p1 n1 H5 s5 _ d1 l1 => ?_⟩
    refine ⟨_, rfl, _, rfl, 2 + r1, c, rs, kss, rfl, k2, k9, t.same s5, fine, m2, m6, fun p2 n2 H6 s6 _ d2 l2 => ?_⟩
    refine ⟨p1, p2, _, _, rfl, rfl, s6 _ _ d1, d2, (by rw [sizeLine_eq, List.length_replicate, List.length_replicate]; omega), fun p3 np3 => ?_⟩
    rw [List.replicate_append_replicate]
    obtain ⟨H7, e7, s7, f7⟩ := gen H6 np3 (.lst (List.replicate (n1 + n2) (.bl true)))
    rw [e7]
    clear e7
    refine ⟨_, rfl, _, rfl, 2 + r1, c, rs, kss, rfl, k2, k9, t.same (s5.trans (s6.trans s7)), fine, m2, m6, fun p4 n4 H8 s8 _ d4 l4 => ?_⟩
    refine ⟨p3, p4, _, _, rfl, rfl, s8 _ _ f7, d4, (by rw [sizeLine_eq, List.length_replicate, List.length_replicate]; omega), fun p5 np5 => ?_⟩
    rw [List.replicate_append_replicate]
    obtain ⟨H9, e9, s9, f9⟩ := gen H8 np5 (.lst (List.replicate (n1 + n2 + n4) (.bl true)))
    rw [e9]
    clear e9
    refine ⟨_, rfl, p5, rfl, ⟨_, SqL.of f9⟩, fun D hD => ?_⟩
    refine lc_list (K := K) (a := p5) (xs := List.replicate (n1 + n2 + n4) (V.bl true)) (fun i H' => Same H9 H' ∧ H' D = some (.lst [])) ⟨same_new hD, upd_same⟩ (fun i H' _ z => SqL.of (z.1 _ _ f9)) ?_ ?_
    · rintro i y H' hi ⟨s', h'⟩
      rw [List.getElem?_replicate] at hi
      split at hi
      · cases hi
        exact ⟨rfl, _, rfl, true, true, rfl, rfl, _, rfl, iteF ⟨s', h'⟩⟩
      · cases hi
    · rintro H' ⟨s', h'⟩
      refine ⟨Nat.zero_le _, fun l hl => ?_⟩
      obtain ⟨H10, e10, s10, f10⟩ := gen H' hl (.lst [])
      rw [e10]
      exact ⟨D, l, _, rfl, rfl, SqL.of (s10 _ _ h'), SqL.of f10, q _⟩
end
end K05

namespace GL
open PySem PySem.Spec PyProof.Rows L2
/-! ### the facts of a class of errors, gathered -/
def HasErr (K : PySem.W.Frag) (x : Str) (C : Addr) : Prop := PySem.W.nsIn K mainGlobals x = some (some (.ref C)) ∧ OexC K C ∧ ∃ fI, PySem.W.findIn K (.ref C) "__init__" = some (some (.ref fI)) ∧ PySem.W.typeIn K (.ref fI) = some (.type "function") ∧ PySem.W.findIn K (.ref C) "value" = some none ∧
  PySem.W.findIn K (.ref C) "__getattribute__" = some (some (.builtin "BaseException.__getattribute__")) ∧ PySem.W.findIn K (.ref C) "__getattr__" = some none ∧ PySem.W.hasDictIn K C = true ∧ PySem.W.findIn K (.ref C) "__class__" = some (some (.builtin "object.__class__")) ∧
  PySem.W.specialIn K (.builtin "object.__class__") "__get__" = some (some (.builtin "getset_descriptor.__get__")) ∧ PySem.W.takesIn K (.builtin "object.__class__") = some true ∧ PySem.W.mroIn K C (.type "object") = some true ∧
  ∃ (qual : Str) (p1 p2 p3 q1 q2 q3 q4 : Pos) (fd : FuncData), FunD K "__init__" qual (iniA p1 p2 p3) (iniB q1 q2 q3 q4) iniS [.non] [] fI fd
theorem HasErr.err {K : PySem.W.Frag} {x : Str} {C : Addr} {mg : Str → Option Value} {h : Heap} (E : HasErr K x C) (X : K.In h) (G : h.Ns mainGlobals mg) : ∃ fI, Err K mg x C fI ∧ ∀ (P : Program) (w : World) (base : Heap), Ini P w K mg base fI := by
  obtain ⟨a, o, fI, b1, b2, b3, b4, b5, b6, b7, b8, b9, b10, qual, p1, p2, p3, q1, q2, q3, q4, fd, F⟩ := E
  exact ⟨fI, ⟨PySem.W.mg_of X G a, o, b1, b2, b3, b4, b5, b6, b7, b8, b9, b10⟩, fun P w base => ini_ok F⟩
theorem hasErr_mk {K : PySem.W.Frag} {x : Str} {C fI T : Addr} {nm q : Str} {N : Addr} {bs bm : List Value} {sn sub ab col dd k0 k1 k2 k3 k5} {oc kV doc pm cdv ct : Value} {od an : Option Addr} {osl slT : Array (Option Value)} {qual : Str} {p1 p2 p3 q1 q2 q3 q4 : Pos} {cT : Value} {dT : Option Addr} {n : Nat}
    (a1 : PySem.W.nsIn K mainGlobals x = some (some (.ref C))) (a2 : K.lookup C = some (excClassObj nm q C N bs bm true sn sub ab col dd k0 k1 k2 k3 k5 "ValueError.__new__")) (a3 : PySem.HandSPX.refsVE bm = true)
    (a4 : PySem.W.findIn K (.ref C) "__setattr__" = some (some (.builtin "object.__setattr__"))) (a5 : PySem.W.subIn K (.ref C) (.type "BaseException") = some true) (a6 : PySem.W.typeIn K (.ref C) = some (.type "type")) (a7 : PySem.W.keepIn K (.ref C) = true)
    (b1 : PySem.W.findIn K (.ref C) "__init__" = some (some (.ref fI))) (b2 : PySem.W.typeIn K (.ref fI) = some (.type "function")) (b3 : PySem.W.findIn K (.ref C) "value" = some none)
    (b4 : PySem.W.findIn K (.ref C) "__getattribute__" = some (some (.builtin "BaseException.__getattribute__"))) (b5 : PySem.W.findIn K (.ref C) "__getattr__" = some none) (b6 : PySem.W.hasDictIn K C = true) (b7 : PySem.W.findIn K (.ref C) "__class__" = some (some (.builtin "object.__class__")))
    (b8 : PySem.W.specialIn K (.builtin "object.__class__") "__get__" = some (some (.builtin "getset_descriptor.__get__"))) (b9 : PySem.W.takesIn K (.builtin "object.__class__") = some true) (b10 : PySem.W.mroIn K C (.type "object") = some true)
    (c1 : K.lookup fI = some ⟨oc, od, .func (PySem.W.fnOf "__init__" qual (iniA p1 p2 p3) (iniB q1 q2 q3 q4) iniS (.ref T) kV doc pm an cdv ct), osl⟩) (c2 : PySem.W.codeIn K cdv qual = true) (c3 : PySem.W.keepIn K (.ref fI) = true)
    (c4 : K.lookup T = some ⟨cT, dT, .seq #[.none] n, slT⟩) : HasErr K x C :=
  ⟨a1, ⟨⟨nm, q, N, bs, bm, sn, sub, ab, col, dd, k0, k1, k2, k3, k5, a2, a3⟩, a4, a5, a6, a7⟩, fI, b1, b2, b3, b4, b5, b6, b7, b8, b9, b10, qual, p1, p2, p3, q1, q2, q3, q4, _, ⟨oc, od, .ref T, kV, doc, pm, an, cdv, ct, osl, rfl, c1, c2, .inr ⟨by simp, T, _, [.none], n, rfl, c4, rfl, .cons rfl .nil⟩, .inl rfl⟩, c3⟩
theorem exm_by {K : PySem.W.Frag} {Ci Cj : Addr} {b : Bool} (h1 : PySem.W.subIn K (.ref Cj) (.type "BaseException") = some true) (h2 : (PySem.W.clsIn K Cj).isSome = true) (h3 : PySem.W.typeIn K (.ref Cj) = some (.type "type")) (h4 : PySem.W.subIn K (.ref Ci) (.ref Cj) = some b) : PySem.W.exmOne K (.ref Ci) (.ref Cj) = some b := by
  simp [PySem.W.exmOne, PySem.W.kitCls, h1, h2, h3, h4]
theorem kit_same {K : PySem.W.Frag} {C : Addr} : PySem.W.kitOne K (.ref C) (.ref C) = some true := by
  simp [PySem.W.kitOne]
theorem kit_by {K : PySem.W.Frag} {Ci Cj : Addr} (h2 : (PySem.W.clsIn K Cj).isSome = true) (h3 : PySem.W.typeIn K (.ref Cj) = some (.type "type")) (h4 : PySem.W.subIn K (.ref Ci) (.ref Cj) = some false) (h5 : PySem.W.subIn K (.ref Ci) (.ref Ci) = some true) : PySem.W.kitOne K (.ref Ci) (.ref Cj) = some false := by
  by_cases e : Ci = Cj
  · subst e
    rw [h4] at h5
    cases h5
  · have ne : ¬ (Value.ref Ci == Value.ref Cj) = true := fun z => e (by
      have := beq_iff_eq.mp z
      injection this)
    unfold PySem.W.kitOne
    rw [if_neg ne]
    simp [PySem.W.kitCls, h2, h3, h4]
theorem kit_val {K : PySem.W.Frag} {C : Addr} (h : PySem.W.subIn K (.ref C) (.type "ValueError") = some true) : PySem.W.kitOne K (.ref C) (.type "ValueError") = some true := by
  have ne : ¬ (Value.ref C == Value.type "ValueError") = true := fun z => by
    have := beq_iff_eq.mp z
    cases this
  unfold PySem.W.kitOne
  rw [if_neg ne]
  show (if PySem.W.kitMeta "ValueError" = true then PySem.W.subIn K (.ref C) (.type "ValueError") else none) = some true
  rw [if_pos (by decide +kernel)]
  exact h
theorem cls_of {K : PySem.W.Frag} {C : Addr} (h : PySem.W.hasDictIn K C = true) : (PySem.W.clsIn K C).isSome = true := by
  obtain ⟨cd, hc, _⟩ := PySem.W.any_some h
  rw [hc]
  rfl
theorem HasErr.cl {K : PySem.W.Frag} {x : Str} {C : Addr} (E : HasErr K x C) : (PySem.W.clsIn K C).isSome = true ∧ PySem.W.typeIn K (.ref C) = some (.type "type") ∧ PySem.W.subIn K (.ref C) (.type "BaseException") = some true := by
  obtain ⟨a, o, fI, b1, b2, b3, b4, b5, b6, _⟩ := E
  exact ⟨cls_of b6, o.tyC, o.exC⟩
end GL

namespace K05
open PySem PySem.Spec PyProof.Rows L2 GL
/-- a def of the text stands under its name -/
def Has (K : PySem.W.Frag) (x : Str) (st : Stmt) : Prop := ∃ (f : Addr) (oc : Value) (od : Option Addr) (kV dc pm : Value) (an : Option Addr) (cd ct : Value) (sl : Array (Option Value)), PySem.W.nsIn K mainGlobals x = some (some (.ref f)) ∧
  K.lookup f = some ⟨oc, od, .func (PySem.W.fnOf x x (defArgs st) (defBody st) (defScope st) .none kV dc pm an cd ct), sl⟩ ∧ PySem.W.codeIn K cd x = true ∧ PySem.W.keepIn K (.ref f) = true
theorem Has.fn {K : PySem.W.Frag} {x : Str} {st : Stmt} {h : Heap} {mg : Str → Option Value} (H : Has K x st) (X : K.In h) (G : h.Ns mainGlobals mg) : ∃ (f : Addr) (fd : FuncData), Fun K x x st f fd ∧ mg x = some (.ref f) := by
  obtain ⟨f, oc, od, kV, dc, pm, an, cd, ct, sl, a, l, c, k⟩ := H
  exact ⟨f, _, fun_mk (st := st) l c k, PySem.W.mg_of X G a⟩
theorem has_mk {K : PySem.W.Frag} {x : Str} {st : Stmt} {f : Addr} {oc kV dc pm cd ct : Value} {od an : Option Addr} {sl : Array (Option Value)} (a : PySem.W.nsIn K mainGlobals x = some (some (.ref f)))
    (l : K.lookup f = some ⟨oc, od, .func (PySem.W.fnOf x x (defArgs st) (defBody st) (defScope st) .none kV dc pm an cd ct), sl⟩) (c : PySem.W.codeIn K cd x = true) (k : PySem.W.keepIn K (.ref f) = true) : Has K x st := ⟨f, oc, od, kV, dc, pm, an, cd, ct, sl, a, l, c, k⟩
/-- a written number of the text -/
def HasInt (K : PySem.W.Frag) (x : Str) (n : Int) : Prop := ∃ t, PySem.W.nsIn K mainGlobals x = some (some (.int n t))
theorem hasInt_mk {K : PySem.W.Frag} {x : Str} {n : Int} {t : Tok} (a : PySem.W.nsIn K mainGlobals x = some (some (.int n t))) : HasInt K x n := ⟨t, a⟩
def HasNot (K : PySem.W.Frag) (x : Str) : Prop := PySem.W.nsIn K mainGlobals x = some none
def erOf (c0 c1 c2 c3 c4 c5 c6 : Addr) (n : Str) : Addr := if n = "TieError" then c0 else if n = "InvalidCompany" then c1 else if n = "InvalidCouple" then c2 else if n = "InvalidDeed" then c3 else if n = "InvalidLot" then c4 else if n = "InvalidNumber" then c5 else c6
theorem er_0 (c0 c1 c2 c3 c4 c5 c6 : Addr) : erOf c0 c1 c2 c3 c4 c5 c6 "TieError" = c0 := by
  unfold erOf
  rw [if_pos rfl]
theorem er_1 (c0 c1 c2 c3 c4 c5 c6 : Addr) : erOf c0 c1 c2 c3 c4 c5 c6 "InvalidCompany" = c1 := by
  unfold erOf
  rw [if_neg (by decide), if_pos rfl]
theorem er_2 (c0 c1 c2 c3 c4 c5 c6 : Addr) : erOf c0 c1 c2 c3 c4 c5 c6 "InvalidCouple" = c2 := by
  unfold erOf
  rw [if_neg (by decide), if_neg (by decide), if_pos rfl]
theorem er_3 (c0 c1 c2 c3 c4 c5 c6 : Addr) : erOf c0 c1 c2 c3 c4 c5 c6 "InvalidDeed" = c3 := by
  unfold erOf
  rw [if_neg (by decide), if_neg (by decide), if_neg (by decide), if_pos rfl]
theorem er_4 (c0 c1 c2 c3 c4 c5 c6 : Addr) : erOf c0 c1 c2 c3 c4 c5 c6 "InvalidLot" = c4 := by
  unfold erOf
  rw [if_neg (by decide), if_neg (by decide), if_neg (by decide), if_neg (by decide), if_pos rfl]
theorem er_5 (c0 c1 c2 c3 c4 c5 c6 : Addr) : erOf c0 c1 c2 c3 c4 c5 c6 "InvalidNumber" = c5 := by
  unfold erOf
  rw [if_neg (by decide), if_neg (by decide), if_neg (by decide), if_neg (by decide), if_neg (by decide), if_pos rfl]
theorem er_6 (c0 c1 c2 c3 c4 c5 c6 : Addr) : erOf c0 c1 c2 c3 c4 c5 c6 "Unlike" = c6 := by
  unfold erOf
  rw [if_neg (by decide), if_neg (by decide), if_neg (by decide), if_neg (by decide), if_neg (by decide), if_neg (by decide)]
theorem all_mk {l : PySem.W.OpenLaw} {w : World} {K : PySem.W.Frag} {h : Heap} {mg : Str → Option Value} {fa : Addr} (X : K.In h) (G : h.Ns mainGlobals mg) (hfa : mg "law" = some (.ref fa))
    (h50 : Has K "_law_hash" sHash) (h51 : Has K "_law_random" sRandom) (h52 : Has K "_law_cell" sCell) (h53 : Has K "_law_generator" sGen) (h54 : Has K "_law_tie" sTie) (h57 : Has K "_law_named" sNamed) (h58 : Has K "_law_order" sOrder) (h59 : Has K "_law_company" sCompany) (h13 : Has K "is_whole" sWhole) (h15 : Has K "are_kinds" sKindsA) (h22 : Has K "check_kinds" sKnd) (h37 : Has K "is_company" sOne) (h14 : Has K "is_below" sBelow) (h16 : Has K "is_row" sRow) (h17 : Has K "is_company_of" sCompOf) (h23 : Has K "check_company" sCom) (h18 : Has K "is_couple" sCoupleD) (h25 : Has K "check_couple" sCou) (h38 : Has K "tie" sTieX) (h39 : Has K "stand_alike" sStandX) (h40 : Has K "alike_couples" sAlikeX) (h20 : Has K "is_lot" sLotA) (h26 : Has K "check_lot" sLotC) (h41 : Has K "among" sAmongX) (h21 : Has K "is_order" sOrderA) (h42 : Has K "renamed" sRenamedX) (h24 : Has K "check_companies" sComs) (h43 : Has K "differing" sDifferX) (h44 : Has K "is_deed" sHeadX) (h45 : Has K "deeds" sDeedsX) (h28 : Has K "ties_of" sTies) (h29 : Has K "company_with" sCompWith) (h19 : Has K "is_couple_with_kind" sCplK) (h30 : Has K "are_alike" sAreAlike) (h35 : Has K "is_deed_now" sDeedNow) (h36 : Has K "followed" sFollowed) (h46 : Has K "done" sDoneX) (h47 : Has K "led" sLedX) (h48 : Has K "is_road" sRoadX) (h61 : Has K "_law_called" sCalled) (h62 : Has K "_law_refused" sRefused) (h63 : Has K "_law_heads_refused" sHeads) (h64 : Has K "_law_rest_refused" sRest) (h56 : Has K "_law_couples" sCouples) (h55 : Has K "_law_alike" sAlike2) (h60 : Has K "_law_deeds" sDeedsM) (h66 : Has K "_law_itself" sItself) (h65 : Has K "_law_deeds_refused" sDeedsR) (h67 : Has K "law" sLaw)
    (c0 : HasInt K "LEAST_KINDS" 2) (c1 : HasInt K "MOST_KINDS" 9) (c2 : HasInt K "MOST_PEOPLE" 40)
    (z0 : HasNot K "int") (z1 : HasNot K "len") (z2 : HasNot K "sum") (z3 : HasNot K "max") (z4 : HasNot K "min") (z5 : HasNot K "range") (z6 : HasNot K "isinstance") (z7 : HasNot K "bool") (z8 : HasNot K "list") (z9 : HasNot K "tuple") (z10 : HasNot K "all") (z11 : HasNot K "enumerate") (z12 : HasNot K "repr") (z13 : HasNot K "zip") (z14 : HasNot K "any") (z15 : HasNot K "set") (z16 : HasNot K "sorted")
    (m0 : PySem.W.nsIn K mainGlobals "combinations" = some (some (.type "itertools.combinations")))
    {C0 C1 C2 C3 C4 C5 C6 : Addr} (x0 : PySem.W.nsIn K mainGlobals "TieError" = some (some (.ref C0))) (zv : HasNot K "ValueError")
    (x1 : HasErr K "InvalidCompany" C1) (x2 : HasErr K "InvalidCouple" C2) (x3 : HasErr K "InvalidDeed" C3) (x4 : HasErr K "InvalidLot" C4) (x5 : HasErr K "InvalidNumber" C5) (x6 : HasErr K "Unlike" C6)
    (y0 : PySem.W.subIn K (.ref C0) (.type "BaseException") = some true) (y1 : PySem.W.typeIn K (.ref C0) = some (.type "type")) (y2 : PySem.W.hasDictIn K C0 = true)
    (ym1 : PySem.W.subIn K (.ref C1) (.ref C0) = some true) (yv1 : PySem.W.subIn K (.ref C1) (.type "ValueError") = some true) (ym2 : PySem.W.subIn K (.ref C2) (.ref C0) = some true) (yv2 : PySem.W.subIn K (.ref C2) (.type "ValueError") = some true) (ym3 : PySem.W.subIn K (.ref C3) (.ref C0) = some true) (yv3 : PySem.W.subIn K (.ref C3) (.type "ValueError") = some true) (ym4 : PySem.W.subIn K (.ref C4) (.ref C0) = some true) (yv4 : PySem.W.subIn K (.ref C4) (.type "ValueError") = some true) (ym5 : PySem.W.subIn K (.ref C5) (.ref C0) = some true) (yv5 : PySem.W.subIn K (.ref C5) (.type "ValueError") = some true) (ym6 : PySem.W.subIn K (.ref C6) (.ref C0) = some true) (yv6 : PySem.W.subIn K (.ref C6) (.type "ValueError") = some true)
    (ys1_1 : PySem.W.subIn K (.ref C1) (.ref C1) = some true) (ys1_2 : PySem.W.subIn K (.ref C1) (.ref C2) = some false) (ys1_3 : PySem.W.subIn K (.ref C1) (.ref C3) = some false) (ys1_4 : PySem.W.subIn K (.ref C1) (.ref C4) = some false) (ys1_5 : PySem.W.subIn K (.ref C1) (.ref C5) = some false) (ys1_6 : PySem.W.subIn K (.ref C1) (.ref C6) = some false) (ys2_1 : PySem.W.subIn K (.ref C2) (.ref C1) = some false) (ys2_2 : PySem.W.subIn K (.ref C2) (.ref C2) = some true) (ys2_3 : PySem.W.subIn K (.ref C2) (.ref C3) = some false) (ys2_4 : PySem.W.subIn K (.ref C2) (.ref C4) = some false) (ys2_5 : PySem.W.subIn K (.ref C2) (.ref C5) = some false) (ys2_6 : PySem.W.subIn K (.ref C2) (.ref C6) = some false) (ys3_1 : PySem.W.subIn K (.ref C3) (.ref C1) = some false) (ys3_2 : PySem.W.subIn K (.ref C3) (.ref C2) = some false) (ys3_3 : PySem.W.subIn K (.ref C3) (.ref C3) = some true) (ys3_4 : PySem.W.subIn K (.ref C3) (.ref C4) = some false) (ys3_5 : PySem.W.subIn K (.ref C3) (.ref C5) = some false) (ys3_6 : PySem.W.subIn K (.ref C3) (.ref C6) = some false) (ys4_1 : PySem.W.subIn K (.ref C4) (.ref C1) = some false) (ys4_2 : PySem.W.subIn K (.ref C4) (.ref C2) = some false) (ys4_3 : PySem.W.subIn K (.ref C4) (.ref C3) = some false) (ys4_4 : PySem.W.subIn K (.ref C4) (.ref C4) = some true) (ys4_5 : PySem.W.subIn K (.ref C4) (.ref C5) = some false) (ys4_6 : PySem.W.subIn K (.ref C4) (.ref C6) = some false) (ys5_1 : PySem.W.subIn K (.ref C5) (.ref C1) = some false) (ys5_2 : PySem.W.subIn K (.ref C5) (.ref C2) = some false) (ys5_3 : PySem.W.subIn K (.ref C5) (.ref C3) = some false) (ys5_4 : PySem.W.subIn K (.ref C5) (.ref C4) = some false) (ys5_5 : PySem.W.subIn K (.ref C5) (.ref C5) = some true) (ys5_6 : PySem.W.subIn K (.ref C5) (.ref C6) = some false) (ys6_1 : PySem.W.subIn K (.ref C6) (.ref C1) = some false) (ys6_2 : PySem.W.subIn K (.ref C6) (.ref C2) = some false) (ys6_3 : PySem.W.subIn K (.ref C6) (.ref C3) = some false) (ys6_4 : PySem.W.subIn K (.ref C6) (.ref C4) = some false) (ys6_5 : PySem.W.subIn K (.ref C6) (.ref C5) = some false) (ys6_6 : PySem.W.subIn K (.ref C6) (.ref C6) = some true)
    :
    ∃ fd : FuncData, (∀ (s : Shared) (v : Value), BindsTo s fd ⟨[v], []⟩ [("_law_script", v)]) ∧ ∀ base : Heap, K.In base → base.Ns mainGlobals mg → FnG l.prog w K mg base CX0 11 fa fd ["_law_script"] (spLaw K) := by
  have nn : ∀ {x : Str}, HasNot K x → mg x = none := fun z => PySem.W.mg_none_of X G z
  have T : Bi mg := ⟨nn z0, nn z1, nn z2, nn z3, nn z4, nn z5, nn z6, nn z7, nn z8, nn z9, nn z10, nn z11, nn z12, nn z13, nn z14, nn z15, nn z16⟩
  have IM : Im mg := PySem.W.mg_of X G m0
  have C : Cs mg := ⟨let ⟨t, a⟩ := c0; ⟨t, PySem.W.mg_of X G a⟩, let ⟨t, a⟩ := c1; ⟨t, PySem.W.mg_of X G a⟩, let ⟨t, a⟩ := c2; ⟨t, PySem.W.mg_of X G a⟩⟩
  obtain ⟨er, her⟩ : ∃ er, er = erOf C0 C1 C2 C3 C4 C5 C6 := ⟨_, rfl⟩
  have e0 : er "TieError" = C0 := by rw [her]; exact er_0 C0 C1 C2 C3 C4 C5 C6
  have e1 : er "InvalidCompany" = C1 := by rw [her]; exact er_1 C0 C1 C2 C3 C4 C5 C6
  have e2 : er "InvalidCouple" = C2 := by rw [her]; exact er_2 C0 C1 C2 C3 C4 C5 C6
  have e3 : er "InvalidDeed" = C3 := by rw [her]; exact er_3 C0 C1 C2 C3 C4 C5 C6
  have e4 : er "InvalidLot" = C4 := by rw [her]; exact er_4 C0 C1 C2 C3 C4 C5 C6
  have e5 : er "InvalidNumber" = C5 := by rw [her]; exact er_5 C0 C1 C2 C3 C4 C5 C6
  have e6 : er "Unlike" = C6 := by rw [her]; exact er_6 C0 C1 C2 C3 C4 C5 C6
  obtain ⟨i1, r1, q1⟩ := x1.err X G
  rw [← e1] at r1
  obtain ⟨i2, r2, q2⟩ := x2.err X G
  rw [← e2] at r2
  obtain ⟨i3, r3, q3⟩ := x3.err X G
  rw [← e3] at r3
  obtain ⟨i4, r4, q4⟩ := x4.err X G
  rw [← e4] at r4
  obtain ⟨i5, r5, q5⟩ := x5.err X G
  rw [← e5] at r5
  obtain ⟨i6, r6, q6⟩ := x6.err X G
  rw [← e6] at r6
  obtain ⟨l1, t1, b1' ⟩ := x1.cl
  have xm1 := exm_by y0 (cls_of y2) y1 ym1
  have xv1 := kit_val yv1
  obtain ⟨l2, t2, b2' ⟩ := x2.cl
  have xm2 := exm_by y0 (cls_of y2) y1 ym2
  have xv2 := kit_val yv2
  obtain ⟨l3, t3, b3' ⟩ := x3.cl
  have xm3 := exm_by y0 (cls_of y2) y1 ym3
  have xv3 := kit_val yv3
  obtain ⟨l4, t4, b4' ⟩ := x4.cl
  have xm4 := exm_by y0 (cls_of y2) y1 ym4
  have xv4 := kit_val yv4
  obtain ⟨l5, t5, b5' ⟩ := x5.cl
  have xm5 := exm_by y0 (cls_of y2) y1 ym5
  have xv5 := kit_val yv5
  obtain ⟨l6, t6, b6' ⟩ := x6.cl
  have xm6 := exm_by y0 (cls_of y2) y1 ym6
  have xv6 := kit_val yv6
  have xk1_1 : PySem.W.kitOne K (.ref C1) (.ref C1) = some true := kit_same
  have xe1_1 := exm_by b1' l1 t1 ys1_1
  have xk1_2 : PySem.W.kitOne K (.ref C1) (.ref C2) = some false := kit_by l2 t2 ys1_2 ys1_1
  have xe1_2 := exm_by b2' l2 t2 ys1_2
  have xk1_3 : PySem.W.kitOne K (.ref C1) (.ref C3) = some false := kit_by l3 t3 ys1_3 ys1_1
  have xe1_3 := exm_by b3' l3 t3 ys1_3
  have xk1_4 : PySem.W.kitOne K (.ref C1) (.ref C4) = some false := kit_by l4 t4 ys1_4 ys1_1
  have xe1_4 := exm_by b4' l4 t4 ys1_4
  have xk1_5 : PySem.W.kitOne K (.ref C1) (.ref C5) = some false := kit_by l5 t5 ys1_5 ys1_1
  have xe1_5 := exm_by b5' l5 t5 ys1_5
  have xk1_6 : PySem.W.kitOne K (.ref C1) (.ref C6) = some false := kit_by l6 t6 ys1_6 ys1_1
  have xe1_6 := exm_by b6' l6 t6 ys1_6
  have xk2_1 : PySem.W.kitOne K (.ref C2) (.ref C1) = some false := kit_by l1 t1 ys2_1 ys2_2
  have xe2_1 := exm_by b1' l1 t1 ys2_1
  have xk2_2 : PySem.W.kitOne K (.ref C2) (.ref C2) = some true := kit_same
  have xe2_2 := exm_by b2' l2 t2 ys2_2
  have xk2_3 : PySem.W.kitOne K (.ref C2) (.ref C3) = some false := kit_by l3 t3 ys2_3 ys2_2
  have xe2_3 := exm_by b3' l3 t3 ys2_3
  have xk2_4 : PySem.W.kitOne K (.ref C2) (.ref C4) = some false := kit_by l4 t4 ys2_4 ys2_2
  have xe2_4 := exm_by b4' l4 t4 ys2_4
  have xk2_5 : PySem.W.kitOne K (.ref C2) (.ref C5) = some false := kit_by l5 t5 ys2_5 ys2_2
  have xe2_5 := exm_by b5' l5 t5 ys2_5
  have xk2_6 : PySem.W.kitOne K (.ref C2) (.ref C6) = some false := kit_by l6 t6 ys2_6 ys2_2
  have xe2_6 := exm_by b6' l6 t6 ys2_6
  have xk3_1 : PySem.W.kitOne K (.ref C3) (.ref C1) = some false := kit_by l1 t1 ys3_1 ys3_3
  have xe3_1 := exm_by b1' l1 t1 ys3_1
  have xk3_2 : PySem.W.kitOne K (.ref C3) (.ref C2) = some false := kit_by l2 t2 ys3_2 ys3_3
  have xe3_2 := exm_by b2' l2 t2 ys3_2
  have xk3_3 : PySem.W.kitOne K (.ref C3) (.ref C3) = some true := kit_same
  have xe3_3 := exm_by b3' l3 t3 ys3_3
  have xk3_4 : PySem.W.kitOne K (.ref C3) (.ref C4) = some false := kit_by l4 t4 ys3_4 ys3_3
  have xe3_4 := exm_by b4' l4 t4 ys3_4
  have xk3_5 : PySem.W.kitOne K (.ref C3) (.ref C5) = some false := kit_by l5 t5 ys3_5 ys3_3
  have xe3_5 := exm_by b5' l5 t5 ys3_5
  have xk3_6 : PySem.W.kitOne K (.ref C3) (.ref C6) = some false := kit_by l6 t6 ys3_6 ys3_3
  have xe3_6 := exm_by b6' l6 t6 ys3_6
  have xk4_1 : PySem.W.kitOne K (.ref C4) (.ref C1) = some false := kit_by l1 t1 ys4_1 ys4_4
  have xe4_1 := exm_by b1' l1 t1 ys4_1
  have xk4_2 : PySem.W.kitOne K (.ref C4) (.ref C2) = some false := kit_by l2 t2 ys4_2 ys4_4
  have xe4_2 := exm_by b2' l2 t2 ys4_2
  have xk4_3 : PySem.W.kitOne K (.ref C4) (.ref C3) = some false := kit_by l3 t3 ys4_3 ys4_4
  have xe4_3 := exm_by b3' l3 t3 ys4_3
  have xk4_4 : PySem.W.kitOne K (.ref C4) (.ref C4) = some true := kit_same
  have xe4_4 := exm_by b4' l4 t4 ys4_4
  have xk4_5 : PySem.W.kitOne K (.ref C4) (.ref C5) = some false := kit_by l5 t5 ys4_5 ys4_4
  have xe4_5 := exm_by b5' l5 t5 ys4_5
  have xk4_6 : PySem.W.kitOne K (.ref C4) (.ref C6) = some false := kit_by l6 t6 ys4_6 ys4_4
  have xe4_6 := exm_by b6' l6 t6 ys4_6
  have xk5_1 : PySem.W.kitOne K (.ref C5) (.ref C1) = some false := kit_by l1 t1 ys5_1 ys5_5
  have xe5_1 := exm_by b1' l1 t1 ys5_1
  have xk5_2 : PySem.W.kitOne K (.ref C5) (.ref C2) = some false := kit_by l2 t2 ys5_2 ys5_5
  have xe5_2 := exm_by b2' l2 t2 ys5_2
  have xk5_3 : PySem.W.kitOne K (.ref C5) (.ref C3) = some false := kit_by l3 t3 ys5_3 ys5_5
  have xe5_3 := exm_by b3' l3 t3 ys5_3
  have xk5_4 : PySem.W.kitOne K (.ref C5) (.ref C4) = some false := kit_by l4 t4 ys5_4 ys5_5
  have xe5_4 := exm_by b4' l4 t4 ys5_4
  have xk5_5 : PySem.W.kitOne K (.ref C5) (.ref C5) = some true := kit_same
  have xe5_5 := exm_by b5' l5 t5 ys5_5
  have xk5_6 : PySem.W.kitOne K (.ref C5) (.ref C6) = some false := kit_by l6 t6 ys5_6 ys5_5
  have xe5_6 := exm_by b6' l6 t6 ys5_6
  have xk6_1 : PySem.W.kitOne K (.ref C6) (.ref C1) = some false := kit_by l1 t1 ys6_1 ys6_6
  have xe6_1 := exm_by b1' l1 t1 ys6_1
  have xk6_2 : PySem.W.kitOne K (.ref C6) (.ref C2) = some false := kit_by l2 t2 ys6_2 ys6_6
  have xe6_2 := exm_by b2' l2 t2 ys6_2
  have xk6_3 : PySem.W.kitOne K (.ref C6) (.ref C3) = some false := kit_by l3 t3 ys6_3 ys6_6
  have xe6_3 := exm_by b3' l3 t3 ys6_3
  have xk6_4 : PySem.W.kitOne K (.ref C6) (.ref C4) = some false := kit_by l4 t4 ys6_4 ys6_6
  have xe6_4 := exm_by b4' l4 t4 ys6_4
  have xk6_5 : PySem.W.kitOne K (.ref C6) (.ref C5) = some false := kit_by l5 t5 ys6_5 ys6_6
  have xe6_5 := exm_by b5' l5 t5 ys6_5
  have xk6_6 : PySem.W.kitOne K (.ref C6) (.ref C6) = some true := kit_same
  have xe6_6 := exm_by b6' l6 t6 ys6_6
  have ER : Errs sixN K mg er := by
    refine ⟨by rw [e0]; exact PySem.W.mg_of X G x0, fun x hx => ?_, fun x hx => ?_, nn zv, fun x hx => ?_, fun x hx y hy => ?_, fun x hx y hy => ?_⟩
    · simp only [sixN, List.mem_cons, List.not_mem_nil, or_false] at hx
      rcases hx with rfl | rfl | rfl | rfl | rfl | rfl
      · exact ⟨i1, r1⟩
      · exact ⟨i2, r2⟩
      · exact ⟨i3, r3⟩
      · exact ⟨i4, r4⟩
      · exact ⟨i5, r5⟩
      · exact ⟨i6, r6⟩
    · simp only [sixN, List.mem_cons, List.not_mem_nil, or_false] at hx
      rcases hx with rfl | rfl | rfl | rfl | rfl | rfl
      · rw [e1, e0]; exact xm1
      · rw [e2, e0]; exact xm2
      · rw [e3, e0]; exact xm3
      · rw [e4, e0]; exact xm4
      · rw [e5, e0]; exact xm5
      · rw [e6, e0]; exact xm6
    · simp only [sixN, List.mem_cons, List.not_mem_nil, or_false] at hx
      rcases hx with rfl | rfl | rfl | rfl | rfl | rfl
      · rw [e1]; exact xv1
      · rw [e2]; exact xv2
      · rw [e3]; exact xv3
      · rw [e4]; exact xv4
      · rw [e5]; exact xv5
      · rw [e6]; exact xv6
    · simp only [sixN, List.mem_cons, List.not_mem_nil, or_false] at hx
      simp only [sixN, List.mem_cons, List.not_mem_nil, or_false] at hy
      rcases hx with rfl | rfl | rfl | rfl | rfl | rfl
      · rcases hy with rfl | rfl | rfl | rfl | rfl | rfl
        · rw [e1]; exact xk1_1.trans (by decide +kernel)
        · rw [e1, e2]; exact xk1_2.trans (by decide +kernel)
        · rw [e1, e3]; exact xk1_3.trans (by decide +kernel)
        · rw [e1, e4]; exact xk1_4.trans (by decide +kernel)
        · rw [e1, e5]; exact xk1_5.trans (by decide +kernel)
        · rw [e1, e6]; exact xk1_6.trans (by decide +kernel)
      · rcases hy with rfl | rfl | rfl | rfl | rfl | rfl
        · rw [e2, e1]; exact xk2_1.trans (by decide +kernel)
        · rw [e2]; exact xk2_2.trans (by decide +kernel)
        · rw [e2, e3]; exact xk2_3.trans (by decide +kernel)
        · rw [e2, e4]; exact xk2_4.trans (by decide +kernel)
        · rw [e2, e5]; exact xk2_5.trans (by decide +kernel)
        · rw [e2, e6]; exact xk2_6.trans (by decide +kernel)
      · rcases hy with rfl | rfl | rfl | rfl | rfl | rfl
        · rw [e3, e1]; exact xk3_1.trans (by decide +kernel)
        · rw [e3, e2]; exact xk3_2.trans (by decide +kernel)
        · rw [e3]; exact xk3_3.trans (by decide +kernel)
        · rw [e3, e4]; exact xk3_4.trans (by decide +kernel)
        · rw [e3, e5]; exact xk3_5.trans (by decide +kernel)
        · rw [e3, e6]; exact xk3_6.trans (by decide +kernel)
      · rcases hy with rfl | rfl | rfl | rfl | rfl | rfl
        · rw [e4, e1]; exact xk4_1.trans (by decide +kernel)
        · rw [e4, e2]; exact xk4_2.trans (by decide +kernel)
        · rw [e4, e3]; exact xk4_3.trans (by decide +kernel)
        · rw [e4]; exact xk4_4.trans (by decide +kernel)
        · rw [e4, e5]; exact xk4_5.trans (by decide +kernel)
        · rw [e4, e6]; exact xk4_6.trans (by decide +kernel)
      · rcases hy with rfl | rfl | rfl | rfl | rfl | rfl
        · rw [e5, e1]; exact xk5_1.trans (by decide +kernel)
        · rw [e5, e2]; exact xk5_2.trans (by decide +kernel)
        · rw [e5, e3]; exact xk5_3.trans (by decide +kernel)
        · rw [e5, e4]; exact xk5_4.trans (by decide +kernel)
        · rw [e5]; exact xk5_5.trans (by decide +kernel)
        · rw [e5, e6]; exact xk5_6.trans (by decide +kernel)
      · rcases hy with rfl | rfl | rfl | rfl | rfl | rfl
        · rw [e6, e1]; exact xk6_1.trans (by decide +kernel)
        · rw [e6, e2]; exact xk6_2.trans (by decide +kernel)
        · rw [e6, e3]; exact xk6_3.trans (by decide +kernel)
        · rw [e6, e4]; exact xk6_4.trans (by decide +kernel)
        · rw [e6, e5]; exact xk6_5.trans (by decide +kernel)
        · rw [e6]; exact xk6_6.trans (by decide +kernel)
    · simp only [sixN, List.mem_cons, List.not_mem_nil, or_false] at hx
      simp only [sixN, List.mem_cons, List.not_mem_nil, or_false] at hy
      rcases hx with rfl | rfl | rfl | rfl | rfl | rfl
      · rcases hy with rfl | rfl | rfl | rfl | rfl | rfl
        · rw [e1]; exact xe1_1.trans (by decide +kernel)
        · rw [e1, e2]; exact xe1_2.trans (by decide +kernel)
        · rw [e1, e3]; exact xe1_3.trans (by decide +kernel)
        · rw [e1, e4]; exact xe1_4.trans (by decide +kernel)
        · rw [e1, e5]; exact xe1_5.trans (by decide +kernel)
        · rw [e1, e6]; exact xe1_6.trans (by decide +kernel)
      · rcases hy with rfl | rfl | rfl | rfl | rfl | rfl
        · rw [e2, e1]; exact xe2_1.trans (by decide +kernel)
        · rw [e2]; exact xe2_2.trans (by decide +kernel)
        · rw [e2, e3]; exact xe2_3.trans (by decide +kernel)
        · rw [e2, e4]; exact xe2_4.trans (by decide +kernel)
        · rw [e2, e5]; exact xe2_5.trans (by decide +kernel)
        · rw [e2, e6]; exact xe2_6.trans (by decide +kernel)
      · rcases hy with rfl | rfl | rfl | rfl | rfl | rfl
        · rw [e3, e1]; exact xe3_1.trans (by decide +kernel)
        · rw [e3, e2]; exact xe3_2.trans (by decide +kernel)
        · rw [e3]; exact xe3_3.trans (by decide +kernel)
        · rw [e3, e4]; exact xe3_4.trans (by decide +kernel)
        · rw [e3, e5]; exact xe3_5.trans (by decide +kernel)
        · rw [e3, e6]; exact xe3_6.trans (by decide +kernel)
      · rcases hy with rfl | rfl | rfl | rfl | rfl | rfl
        · rw [e4, e1]; exact xe4_1.trans (by decide +kernel)
        · rw [e4, e2]; exact xe4_2.trans (by decide +kernel)
        · rw [e4, e3]; exact xe4_3.trans (by decide +kernel)
        · rw [e4]; exact xe4_4.trans (by decide +kernel)
        · rw [e4, e5]; exact xe4_5.trans (by decide +kernel)
        · rw [e4, e6]; exact xe4_6.trans (by decide +kernel)
      · rcases hy with rfl | rfl | rfl | rfl | rfl | rfl
        · rw [e5, e1]; exact xe5_1.trans (by decide +kernel)
        · rw [e5, e2]; exact xe5_2.trans (by decide +kernel)
        · rw [e5, e3]; exact xe5_3.trans (by decide +kernel)
        · rw [e5, e4]; exact xe5_4.trans (by decide +kernel)
        · rw [e5]; exact xe5_5.trans (by decide +kernel)
        · rw [e5, e6]; exact xe5_6.trans (by decide +kernel)
      · rcases hy with rfl | rfl | rfl | rfl | rfl | rfl
        · rw [e6, e1]; exact xe6_1.trans (by decide +kernel)
        · rw [e6, e2]; exact xe6_2.trans (by decide +kernel)
        · rw [e6, e3]; exact xe6_3.trans (by decide +kernel)
        · rw [e6, e4]; exact xe6_4.trans (by decide +kernel)
        · rw [e6, e5]; exact xe6_5.trans (by decide +kernel)
        · rw [e6]; exact xe6_6.trans (by decide +kernel)
  obtain ⟨f50, fd50, F50, g50⟩ := h50.fn X G
  obtain ⟨f51, fd51, F51, g51⟩ := h51.fn X G
  obtain ⟨f52, fd52, F52, g52⟩ := h52.fn X G
  obtain ⟨f53, fd53, F53, g53⟩ := h53.fn X G
  obtain ⟨f54, fd54, F54, g54⟩ := h54.fn X G
  obtain ⟨f57, fd57, F57, g57⟩ := h57.fn X G
  obtain ⟨f58, fd58, F58, g58⟩ := h58.fn X G
  obtain ⟨f59, fd59, F59, g59⟩ := h59.fn X G
  obtain ⟨f13, fd13, F13, g13⟩ := h13.fn X G
  obtain ⟨f15, fd15, F15, g15⟩ := h15.fn X G
  obtain ⟨f22, fd22, F22, g22⟩ := h22.fn X G
  obtain ⟨f37, fd37, F37, g37⟩ := h37.fn X G
  obtain ⟨f14, fd14, F14, g14⟩ := h14.fn X G
  obtain ⟨f16, fd16, F16, g16⟩ := h16.fn X G
  obtain ⟨f17, fd17, F17, g17⟩ := h17.fn X G
  obtain ⟨f23, fd23, F23, g23⟩ := h23.fn X G
  obtain ⟨f18, fd18, F18, g18⟩ := h18.fn X G
  obtain ⟨f25, fd25, F25, g25⟩ := h25.fn X G
  obtain ⟨f38, fd38, F38, g38⟩ := h38.fn X G
  obtain ⟨f39, fd39, F39, g39⟩ := h39.fn X G
  obtain ⟨f40, fd40, F40, g40⟩ := h40.fn X G
  obtain ⟨f20, fd20, F20, g20⟩ := h20.fn X G
  obtain ⟨f26, fd26, F26, g26⟩ := h26.fn X G
  obtain ⟨f41, fd41, F41, g41⟩ := h41.fn X G
  obtain ⟨f21, fd21, F21, g21⟩ := h21.fn X G
  obtain ⟨f42, fd42, F42, g42⟩ := h42.fn X G
  obtain ⟨f24, fd24, F24, g24⟩ := h24.fn X G
  obtain ⟨f43, fd43, F43, g43⟩ := h43.fn X G
  obtain ⟨f44, fd44, F44, g44⟩ := h44.fn X G
  obtain ⟨f45, fd45, F45, g45⟩ := h45.fn X G
  obtain ⟨f28, fd28, F28, g28⟩ := h28.fn X G
  obtain ⟨f29, fd29, F29, g29⟩ := h29.fn X G
  obtain ⟨f19, fd19, F19, g19⟩ := h19.fn X G
  obtain ⟨f30, fd30, F30, g30⟩ := h30.fn X G
  obtain ⟨f35, fd35, F35, g35⟩ := h35.fn X G
  obtain ⟨f36, fd36, F36, g36⟩ := h36.fn X G
  obtain ⟨f46, fd46, F46, g46⟩ := h46.fn X G
  obtain ⟨f47, fd47, F47, g47⟩ := h47.fn X G
  obtain ⟨f48, fd48, F48, g48⟩ := h48.fn X G
  obtain ⟨f61, fd61, F61, g61⟩ := h61.fn X G
  obtain ⟨f62, fd62, F62, g62⟩ := h62.fn X G
  obtain ⟨f63, fd63, F63, g63⟩ := h63.fn X G
  obtain ⟨f64, fd64, F64, g64⟩ := h64.fn X G
  obtain ⟨f56, fd56, F56, g56⟩ := h56.fn X G
  obtain ⟨f55, fd55, F55, g55⟩ := h55.fn X G
  obtain ⟨f60, fd60, F60, g60⟩ := h60.fn X G
  obtain ⟨f66, fd66, F66, g66⟩ := h66.fn X G
  obtain ⟨f65, fd65, F65, g65⟩ := h65.fn X G
  have b50 := F50.binds (ps := ["_law_seed", "_law_index"]) fun _ _ _ _ _ _ us hl => match us, hl with | [_, _], _ => rfl
  have b51 := F51.binds (ps := ["_law_generator_here", "_law_bound"]) fun _ _ _ _ _ _ us hl => match us, hl with | [_, _], _ => rfl
  have b52 := F52.binds (ps := ["_law_script", "_law_index"]) fun _ _ _ _ _ _ us hl => match us, hl with | [_, _], _ => rfl
  have b53 := F53.binds (ps := ["_law_script", "_law_index"]) fun _ _ _ _ _ _ us hl => match us, hl with | [_, _], _ => rfl
  have b54 := F54.binds (ps := ["_law_company_here", "_law_one", "_law_other"]) fun _ _ _ _ _ _ us hl => match us, hl with | [_, _, _], _ => rfl
  have b57 := F57.binds (ps := ["_law_company_here", "_law_order_here"]) fun _ _ _ _ _ _ us hl => match us, hl with | [_, _], _ => rfl
  have b58 := F58.binds (ps := ["_law_generator_here", "_law_many"]) fun _ _ _ _ _ _ us hl => match us, hl with | [_, _], _ => rfl
  have b59 := F59.binds (ps := ["_law_generator_here", "_law_kinds", "_law_many"]) fun _ _ _ _ _ _ us hl => match us, hl with | [_, _, _], _ => rfl
  have b13 := F13.binds (ps := ["value"]) fun _ _ _ _ _ _ us hl => match us, hl with | [_], _ => rfl
  have b15 := F15.binds (ps := ["value"]) fun _ _ _ _ _ _ us hl => match us, hl with | [_], _ => rfl
  have b22 := F22.binds (ps := ["kinds"]) fun _ _ _ _ _ _ us hl => match us, hl with | [_], _ => rfl
  have b37 := F37.binds (ps := ["kinds", "value"]) fun _ _ _ _ _ _ us hl => match us, hl with | [_, _], _ => rfl
  have b14 := F14.binds (ps := ["value", "bound"]) fun _ _ _ _ _ _ us hl => match us, hl with | [_, _], _ => rfl
  have b16 := F16.binds (ps := ["kinds", "many", "value"]) fun _ _ _ _ _ _ us hl => match us, hl with | [_, _, _], _ => rfl
  have b17 := F17.binds (ps := ["kinds", "value"]) fun _ _ _ _ _ _ us hl => match us, hl with | [_, _], _ => rfl
  have b23 := F23.binds (ps := ["kinds", "company"]) fun _ _ _ _ _ _ us hl => match us, hl with | [_, _], _ => rfl
  have b18 := F18.binds (ps := ["many", "value"]) fun _ _ _ _ _ _ us hl => match us, hl with | [_, _], _ => rfl
  have b25 := F25.binds (ps := ["company", "couple"]) fun _ _ _ _ _ _ us hl => match us, hl with | [_, _], _ => rfl
  have b38 := F38.binds (ps := ["kinds", "company", "couple"]) fun _ _ _ _ _ _ us hl => match us, hl with | [_, _, _], _ => rfl
  have b39 := F39.binds (ps := ["kinds", "company", "couple"]) fun _ _ _ _ _ _ us hl => match us, hl with | [_, _, _], _ => rfl
  have b40 := F40.binds (ps := ["kinds", "company"]) fun _ _ _ _ _ _ us hl => match us, hl with | [_, _], _ => rfl
  have b20 := F20.binds (ps := ["many", "value"]) fun _ _ _ _ _ _ us hl => match us, hl with | [_, _], _ => rfl
  have b26 := F26.binds (ps := ["company", "lot"]) fun _ _ _ _ _ _ us hl => match us, hl with | [_, _], _ => rfl
  have b41 := F41.binds (ps := ["kinds", "company", "lot"]) fun _ _ _ _ _ _ us hl => match us, hl with | [_, _, _], _ => rfl
  have b21 := F21.binds (ps := ["many", "value"]) fun _ _ _ _ _ _ us hl => match us, hl with | [_, _], _ => rfl
  have b42 := F42.binds (ps := ["kinds", "company", "order"]) fun _ _ _ _ _ _ us hl => match us, hl with | [_, _, _], _ => rfl
  have b24 := F24.binds (ps := ["kinds", "one", "other"]) fun _ _ _ _ _ _ us hl => match us, hl with | [_, _, _], _ => rfl
  have b43 := F43.binds (ps := ["kinds", "one", "other"]) fun _ _ _ _ _ _ us hl => match us, hl with | [_, _, _], _ => rfl
  have b44 := F44.binds (ps := ["kinds", "company", "value"]) fun _ _ _ _ _ _ us hl => match us, hl with | [_, _, _], _ => rfl
  have b45 := F45.binds (ps := ["kinds", "company"]) fun _ _ _ _ _ _ us hl => match us, hl with | [_, _], _ => rfl
  have b28 := F28.binds (ps := ["company"]) fun _ _ _ _ _ _ us hl => match us, hl with | [_], _ => rfl
  have b29 := F29.binds (ps := ["ties"]) fun _ _ _ _ _ _ us hl => match us, hl with | [_], _ => rfl
  have b19 := F19.binds (ps := ["kinds", "many", "value"]) fun _ _ _ _ _ _ us hl => match us, hl with | [_, _, _], _ => rfl
  have b30 := F30.binds (ps := ["ties", "one", "other"]) fun _ _ _ _ _ _ us hl => match us, hl with | [_, _, _], _ => rfl
  have b35 := F35.binds (ps := ["kinds", "ties", "value"]) fun _ _ _ _ _ _ us hl => match us, hl with | [_, _, _], _ => rfl
  have b36 := F36.binds (ps := ["kinds", "company", "road"]) fun _ _ _ _ _ _ us hl => match us, hl with | [_, _, _], _ => rfl
  have b46 := F46.binds (ps := ["kinds", "company", "deed"]) fun _ _ _ _ _ _ us hl => match us, hl with | [_, _, _], _ => rfl
  have b47 := F47.binds (ps := ["kinds", "company", "road"]) fun _ _ _ _ _ _ us hl => match us, hl with | [_, _, _], _ => rfl
  have b48 := F48.binds (ps := ["kinds", "company", "value"]) fun _ _ _ _ _ _ us hl => match us, hl with | [_, _, _], _ => rfl
  have b61 := F61.binds (ps := ["_law_door", "_law_args"]) fun _ _ _ _ _ _ us hl => match us, hl with | [_, _], _ => rfl
  have b62 := F62.binds (ps := ["_law_door", "_law_args", "_law_name", "_law_field"]) fun _ _ _ _ _ _ us hl => match us, hl with | [_, _, _, _], _ => rfl
  have b63 := F63.binds (ps := ["_law_kinds", "_law_company_here"]) fun _ _ _ _ _ _ us hl => match us, hl with | [_, _], _ => rfl
  have b64 := F64.binds (ps := ["_law_kinds", "_law_company_here"]) fun _ _ _ _ _ _ us hl => match us, hl with | [_, _], _ => rfl
  have b56 := F56.binds (ps := ["_law_many"]) fun _ _ _ _ _ _ us hl => match us, hl with | [_], _ => rfl
  have b55 := F55.binds (ps := ["_law_company_here", "_law_one", "_law_other"]) fun _ _ _ _ _ _ us hl => match us, hl with | [_, _, _], _ => rfl
  have b60 := F60.binds (ps := ["_law_kinds", "_law_company_here"]) fun _ _ _ _ _ _ us hl => match us, hl with | [_, _], _ => rfl
  have b66 := F66.binds (ps := ["_law_kinds", "_law_company_here", "_law_door"]) fun _ _ _ _ _ _ us hl => match us, hl with | [_, _, _], _ => rfl
  have b65 := F65.binds (ps := ["_law_kinds", "_law_company_here"]) fun _ _ _ _ _ _ us hl => match us, hl with | [_, _], _ => rfl
  obtain ⟨fl, oc, od, kV, dc, pm, an, cd, ct, sl, al, ll, cl, kl⟩ := h67
  have e := hfa.symm.trans (PySem.W.mg_of X G al)
  cases e
  refine ⟨PySem.W.fnOf "law" "law" (defArgs sLaw) (defBody sLaw) (defScope sLaw) .none kV dc pm an cd ct, fun s v => .of_eq rfl, fun base _ _ => ?_⟩
  have EU_InvalidCompany : ErrU l.prog w K mg base er "InvalidCompany" := ⟨i1, r1, q1 _ _ _⟩
  have EU_InvalidCouple : ErrU l.prog w K mg base er "InvalidCouple" := ⟨i2, r2, q2 _ _ _⟩
  have EU_InvalidDeed : ErrU l.prog w K mg base er "InvalidDeed" := ⟨i3, r3, q3 _ _ _⟩
  have EU_InvalidLot : ErrU l.prog w K mg base er "InvalidLot" := ⟨i4, r4, q4 _ _ _⟩
  have EU_InvalidNumber : ErrU l.prog w K mg base er "InvalidNumber" := ⟨i5, r5, q5 _ _ _⟩
  have EU_Unlike : ErrU l.prog w K mg base er "Unlike" := ⟨i6, r6, q6 _ _ _⟩
  have U50 : Use l.prog w K mg base "_law_hash" ["_law_seed", "_law_index"] spHash 1 := ⟨f50, fd50, ok_hash F50 T, g50, F50.kp, b50⟩
  have U51 : Use l.prog w K mg base "_law_random" ["_law_generator_here", "_law_bound"] spRandom 2 := ⟨f51, fd51, ok_random F51 T U50, g51, F51.kp, b51⟩
  have U52 : Use l.prog w K mg base "_law_cell" ["_law_script", "_law_index"] (spCell K) 1 := ⟨f52, fd52, ok_cell F52 T, g52, F52.kp, b52⟩
  have U53 : Use l.prog w K mg base "_law_generator" ["_law_script", "_law_index"] (spGen K) 2 := ⟨f53, fd53, ok_gen F53 T U52, g53, F53.kp, b53⟩
  have U54 : Use l.prog w K mg base "_law_tie" ["_law_company_here", "_law_one", "_law_other"] spTie 1 := ⟨f54, fd54, ok_tie F54 T, g54, F54.kp, b54⟩
  have U57 : Use l.prog w K mg base "_law_named" ["_law_company_here", "_law_order_here"] spNamed 2 := ⟨f57, fd57, ok_named F57 T U54, g57, F57.kp, b57⟩
  have U58 : Use l.prog w K mg base "_law_order" ["_law_generator_here", "_law_many"] spOrder 3 := ⟨f58, fd58, ok_order F58 T U51, g58, F58.kp, b58⟩
  have U59 : Use l.prog w K mg base "_law_company" ["_law_generator_here", "_law_kinds", "_law_many"] spCompany 4 := ⟨f59, fd59, ok_company F59 T U51 U54 U57 U58, g59, F59.kp, b59⟩
  have U13 : Use l.prog w K mg base "is_whole" ["value"] (spWhole K) 1 := ⟨f13, fd13, ok_whole F13 T, g13, F13.kp, b13⟩
  have U15 : Use l.prog w K mg base "are_kinds" ["value"] (spKindsA K) 2 := ⟨f15, fd15, ok_kindsA F15 T C U13, g15, F15.kp, b15⟩
  have U22 : UseX l.prog w K mg base "check_kinds" ["kinds"] (spKnd K er) 3 := ⟨⟨f22, fd22, ok_knd F22 T U15 EU_InvalidNumber, g22, F22.kp, b22⟩⟩
  have U37 : UseX l.prog w K mg base "is_company" ["kinds", "value"] (spOne K er) 7 := ⟨⟨f37, fd37, ok_one F37 T U22, g37, F37.kp, b37⟩⟩
  have U14 : Use l.prog w K mg base "is_below" ["value", "bound"] (spBelow K) 2 := ⟨f14, fd14, ok_below F14 U13, g14, F14.kp, b14⟩
  have U16 : Use l.prog w K mg base "is_row" ["kinds", "many", "value"] (spRow K) 3 := ⟨f16, fd16, ok_row F16 T U14, g16, F16.kp, b16⟩
  have U17 : Use l.prog w K mg base "is_company_of" ["kinds", "value"] (spCompOf K) 4 := ⟨f17, fd17, ok_compOf F17 T C U16, g17, F17.kp, b17⟩
  have U23 : UseX l.prog w K mg base "check_company" ["kinds", "company"] (spCom K er) 5 := ⟨⟨f23, fd23, ok_com F23 T U17 U22 EU_InvalidCompany, g23, F23.kp, b23⟩⟩
  have U18 : Use l.prog w K mg base "is_couple" ["many", "value"] (spCoupleD K) 3 := ⟨f18, fd18, ok_coupleD F18 T U14, g18, F18.kp, b18⟩
  have U25 : UseX l.prog w K mg base "check_couple" ["company", "couple"] (spCou K er) 4 := ⟨⟨f25, fd25, ok_cou F25 T U18 EU_InvalidCouple, g25, F25.kp, b25⟩⟩
  have U38 : UseX l.prog w K mg base "tie" ["kinds", "company", "couple"] (spTieX K er) 7 := ⟨⟨f38, fd38, ok_tieX F38 T U23 U25, g38, F38.kp, b38⟩⟩
  have U39 : UseX l.prog w K mg base "stand_alike" ["kinds", "company", "couple"] (spStandX K er) 7 := ⟨⟨f39, fd39, ok_standX F39 T U23 U25, g39, F39.kp, b39⟩⟩
  have U40 : UseX l.prog w K mg base "alike_couples" ["kinds", "company"] (spAlikeX K er) 7 := ⟨⟨f40, fd40, ok_alikeX F40 T U23, g40, F40.kp, b40⟩⟩
  have U20 : Use l.prog w K mg base "is_lot" ["many", "value"] (spLotA K) 3 := ⟨f20, fd20, ok_lotA F20 T U14, g20, F20.kp, b20⟩
  have U26 : UseX l.prog w K mg base "check_lot" ["company", "lot"] (spLotC K er) 4 := ⟨⟨f26, fd26, ok_lotC F26 T U20 EU_InvalidLot, g26, F26.kp, b26⟩⟩
  have U41 : UseX l.prog w K mg base "among" ["kinds", "company", "lot"] (spAmongX K er) 7 := ⟨⟨f41, fd41, ok_amongX F41 T U23 U26, g41, F41.kp, b41⟩⟩
  have U21 : Use l.prog w K mg base "is_order" ["many", "value"] (spOrderA K) 3 := ⟨f21, fd21, ok_orderA F21 T U14, g21, F21.kp, b21⟩
  have U42 : UseX l.prog w K mg base "renamed" ["kinds", "company", "order"] (spRenamedX K er) 7 := ⟨⟨f42, fd42, ok_renamedX F42 T U21 U23 EU_InvalidLot, g42, F42.kp, b42⟩⟩
  have U24 : UseX l.prog w K mg base "check_companies" ["kinds", "one", "other"] (spComs K er) 6 := ⟨⟨f24, fd24, ok_coms F24 T U17 U23 EU_InvalidCompany EU_Unlike, g24, F24.kp, b24⟩⟩
  have U43 : UseX l.prog w K mg base "differing" ["kinds", "one", "other"] (spDifferX K er) 7 := ⟨⟨f43, fd43, ok_differX F43 T U24, g43, F43.kp, b43⟩⟩
  have U44 : UseX l.prog w K mg base "is_deed" ["kinds", "company", "value"] (spHeadX K er) 7 := ⟨⟨f44, fd44, ok_headX F44 T U23, g44, F44.kp, b44⟩⟩
  have U45 : UseX l.prog w K mg base "deeds" ["kinds", "company"] (spDeedsX K er) 7 := ⟨⟨f45, fd45, ok_deedsX F45 T U23, g45, F45.kp, b45⟩⟩
  have U28 : Use l.prog w K mg base "ties_of" ["company"] spTies 1 := ⟨f28, fd28, ok_ties F28 T, g28, F28.kp, b28⟩
  have U29 : Use l.prog w K mg base "company_with" ["ties"] spCompWith 1 := ⟨f29, fd29, ok_compWith F29 T, g29, F29.kp, b29⟩
  have U19 : Use l.prog w K mg base "is_couple_with_kind" ["kinds", "many", "value"] (spCplK K) 4 := ⟨f19, fd19, ok_cplK F19 T U14 U18, g19, F19.kp, b19⟩
  have U30 : Use l.prog w K mg base "are_alike" ["ties", "one", "other"] spAreAlike 1 := ⟨f30, fd30, ok_areAlike F30 T, g30, F30.kp, b30⟩
  have U35 : Use l.prog w K mg base "is_deed_now" ["kinds", "ties", "value"] (spDeedNow K) 5 := ⟨f35, fd35, ok_deedNow F35 T U19 U30, g35, F35.kp, b35⟩
  have U36 : Use l.prog w K mg base "followed" ["kinds", "company", "road"] (spFollowed K) 6 := ⟨f36, fd36, ok_followed F36 T U28 U29 U35, g36, F36.kp, b36⟩
  have U46 : UseX l.prog w K mg base "done" ["kinds", "company", "deed"] (spDoneX K er) 7 := ⟨⟨f46, fd46, ok_doneX F46 T U23 U36 EU_InvalidDeed, g46, F46.kp, b46⟩⟩
  have U47 : UseX l.prog w K mg base "led" ["kinds", "company", "road"] (spLedX K er) 7 := ⟨⟨f47, fd47, ok_ledX F47 T U23 U36 EU_InvalidDeed, g47, F47.kp, b47⟩⟩
  have U48 : UseX l.prog w K mg base "is_road" ["kinds", "company", "value"] (spRoadX K er) 7 := ⟨⟨f48, fd48, ok_roadX F48 T U23, g48, F48.kp, b48⟩⟩
  have U61 : UseX l.prog w K mg base "_law_called" ["_law_door", "_law_args"] (spCalled K er) 8 := ⟨⟨f61, fd61, ok_called F61 T U37 U38 U39 U40 U41 U42 U43 U44 U45 U46 U47 U48, g61, F61.kp, b61⟩⟩
  have U62 : UseG l.prog w K mg base "_law_refused" ["_law_door", "_law_args", "_law_name", "_law_field"] (spRefused K er) 9 := ⟨f62, fd62, ok_refused F62 T ER U61, g62, F62.kp, b62⟩
  have U63 : UseG l.prog w K mg base "_law_heads_refused" ["_law_kinds", "_law_company_here"] (spHeads K er) 10 := ⟨f63, fd63, ok_heads F63 T U62, g63, F63.kp, b63⟩
  have U64 : UseG l.prog w K mg base "_law_rest_refused" ["_law_kinds", "_law_company_here"] (spRest K er) 10 := ⟨f64, fd64, ok_rest F64 T U62, g64, F64.kp, b64⟩
  have U56 : Use l.prog w K mg base "_law_couples" ["_law_many"] spCouples 1 := ⟨f56, fd56, ok_couples F56 T, g56, F56.kp, b56⟩
  have U55 : Use l.prog w K mg base "_law_alike" ["_law_company_here", "_law_one", "_law_other"] spAlike2 2 := ⟨f55, fd55, ok_alike2 F55 T U54, g55, F55.kp, b55⟩
  have U60 : Use l.prog w K mg base "_law_deeds" ["_law_kinds", "_law_company_here"] spDeedsM 3 := ⟨f60, fd60, ok_deedsM F60 T U54 U55 U56, g60, F60.kp, b60⟩
  have U66 : Use l.prog w K mg base "_law_itself" ["_law_kinds", "_law_company_here", "_law_door"] (spItself K er) 9 := ⟨f66, fd66, ok_itself F66 T ER U40 U45 U61, g66, F66.kp, b66⟩
  have U65 : UseG l.prog w K mg base "_law_deeds_refused" ["_law_kinds", "_law_company_here"] (spDeedsR K er) 10 := ⟨f65, fd65, ok_deedsR F65 T ER U41 U54 U56 U60 U62 U66, g65, F65.kp, b65⟩
  exact ok_law (fun_mk (st := sLaw) ll cl kl) T U51 U53 U59 U63 U64 U65
end K05
open PySem PySem.W PyProof.Rows
set_option maxRecDepth 100000 in
set_option maxHeartbeats 0 in
theorem PySem.Challenge.cw_twinties_k05_companies_and_deeds_refused_holds : PySem.Challenge.rw_twinties_k05_companies_and_deeds_refused.Holds := by
  w_on; o_law; k_head; (case hw => w_witness2)
  k_fill
  refine GL.walk_ofG (l := PySem.Challenge.rw_twinties_k05_companies_and_deeds_refused) (n := 63) (k := 11) (x := "_law_script") (sp := GL.spLaw) rfl (by decide) rfl ⟨rfl, by decide, by decide⟩ (fun w h Y => PySem.W.kIn_of Y) ?F (fun K H a ns hl _ hS => ⟨a, ns, rfl, hS, fun _ => rfl⟩)
  case F =>
    intro w mg fa h KX G hmg
    refine' K05.all_mk KX G hmg ?h50 ?h51 ?h52 ?h53 ?h54 ?h57 ?h58 ?h59 ?h13 ?h15 ?h22 ?h37 ?h14 ?h16 ?h17 ?h23 ?h18 ?h25 ?h38 ?h39 ?h40 ?h20 ?h26 ?h41 ?h21 ?h42 ?h24 ?h43 ?h44 ?h45 ?h28 ?h29 ?h19 ?h30 ?h35 ?h36 ?h46 ?h47 ?h48 ?h61 ?h62 ?h63 ?h64 ?h56 ?h55 ?h60 ?h66 ?h65 ?h67 ?c0 ?c1 ?c2 ?z0 ?z1 ?z2 ?z3 ?z4 ?z5 ?z6 ?z7 ?z8 ?z9 ?z10 ?z11 ?z12 ?z13 ?z14 ?z15 ?z16 ?m0 ?x0 ?zv ?x1 ?x2 ?x3 ?x4 ?x5 ?x6 ?y0 ?y1 ?y2 ?ym1 ?yv1 ?ym2 ?yv2 ?ym3 ?yv3 ?ym4 ?yv4 ?ym5 ?yv5 ?ym6 ?yv6 ?ys1_1 ?ys1_2 ?ys1_3 ?ys1_4 ?ys1_5 ?ys1_6 ?ys2_1 ?ys2_2 ?ys2_3 ?ys2_4 ?ys2_5 ?ys2_6 ?ys3_1 ?ys3_2 ?ys3_3 ?ys3_4 ?ys3_5 ?ys3_6 ?ys4_1 ?ys4_2 ?ys4_3 ?ys4_4 ?ys4_5 ?ys4_6 ?ys5_1 ?ys5_2 ?ys5_3 ?ys5_4 ?ys5_5 ?ys5_6 ?ys6_1 ?ys6_2 ?ys6_3 ?ys6_4 ?ys6_5 ?ys6_6
    (case h50 => refine' K05.has_mk ?a ?l ?c ?k; (case a => k_is); (case l => k_is); (case c => k_is); (case k => k_is))
    (case h51 => refine' K05.has_mk ?a ?l ?c ?k; (case a => k_is); (case l => k_is); (case c => k_is); (case k => k_is))
    (case h52 => refine' K05.has_mk ?a ?l ?c ?k; (case a => k_is); (case l => k_is); (case c => k_is); (case k => k_is))
    (case h53 => refine' K05.has_mk ?a ?l ?c ?k; (case a => k_is); (case l => k_is); (case c => k_is); (case k => k_is))
    (case h54 => refine' K05.has_mk ?a ?l ?c ?k; (case a => k_is); (case l => k_is); (case c => k_is); (case k => k_is))
    (case h57 => refine' K05.has_mk ?a ?l ?c ?k; (case a => k_is); (case l => k_is); (case c => k_is); (case k => k_is))
    (case h58 => refine' K05.has_mk ?a ?l ?c ?k; (case a => k_is); (case l => k_is); (case c => k_is); (case k => k_is))
    (case h59 => refine' K05.has_mk ?a ?l ?c ?k; (case a => k_is); (case l => k_is); (case c => k_is); (case k => k_is))
    (case h13 => refine' K05.has_mk ?a ?l ?c ?k; (case a => k_is); (case l => k_is); (case c => k_is); (case k => k_is))
    (case h15 => refine' K05.has_mk ?a ?l ?c ?k; (case a => k_is); (case l => k_is); (case c => k_is); (case k => k_is))
    (case h22 => refine' K05.has_mk ?a ?l ?c ?k; (case a => k_is); (case l => k_is); (case c => k_is); (case k => k_is))
    (case h37 => refine' K05.has_mk ?a ?l ?c ?k; (case a => k_is); (case l => k_is); (case c => k_is); (case k => k_is))
    (case h14 => refine' K05.has_mk ?a ?l ?c ?k; (case a => k_is); (case l => k_is); (case c => k_is); (case k => k_is))
    (case h16 => refine' K05.has_mk ?a ?l ?c ?k; (case a => k_is); (case l => k_is); (case c => k_is); (case k => k_is))
    (case h17 => refine' K05.has_mk ?a ?l ?c ?k; (case a => k_is); (case l => k_is); (case c => k_is); (case k => k_is))
    (case h23 => refine' K05.has_mk ?a ?l ?c ?k; (case a => k_is); (case l => k_is); (case c => k_is); (case k => k_is))
    (case h18 => refine' K05.has_mk ?a ?l ?c ?k; (case a => k_is); (case l => k_is); (case c => k_is); (case k => k_is))
    (case h25 => refine' K05.has_mk ?a ?l ?c ?k; (case a => k_is); (case l => k_is); (case c => k_is); (case k => k_is))
    (case h38 => refine' K05.has_mk ?a ?l ?c ?k; (case a => k_is); (case l => k_is); (case c => k_is); (case k => k_is))
    (case h39 => refine' K05.has_mk ?a ?l ?c ?k; (case a => k_is); (case l => k_is); (case c => k_is); (case k => k_is))
    (case h40 => refine' K05.has_mk ?a ?l ?c ?k; (case a => k_is); (case l => k_is); (case c => k_is); (case k => k_is))
    (case h20 => refine' K05.has_mk ?a ?l ?c ?k; (case a => k_is); (case l => k_is); (case c => k_is); (case k => k_is))
    (case h26 => refine' K05.has_mk ?a ?l ?c ?k; (case a => k_is); (case l => k_is); (case c => k_is); (case k => k_is))
    (case h41 => refine' K05.has_mk ?a ?l ?c ?k; (case a => k_is); (case l => k_is); (case c => k_is); (case k => k_is))
    (case h21 => refine' K05.has_mk ?a ?l ?c ?k; (case a => k_is); (case l => k_is); (case c => k_is); (case k => k_is))
    (case h42 => refine' K05.has_mk ?a ?l ?c ?k; (case a => k_is); (case l => k_is); (case c => k_is); (case k => k_is))
    (case h24 => refine' K05.has_mk ?a ?l ?c ?k; (case a => k_is); (case l => k_is); (case c => k_is); (case k => k_is))
    (case h43 => refine' K05.has_mk ?a ?l ?c ?k; (case a => k_is); (case l => k_is); (case c => k_is); (case k => k_is))
    (case h44 => refine' K05.has_mk ?a ?l ?c ?k; (case a => k_is); (case l => k_is); (case c => k_is); (case k => k_is))
    (case h45 => refine' K05.has_mk ?a ?l ?c ?k; (case a => k_is); (case l => k_is); (case c => k_is); (case k => k_is))
    (case h28 => refine' K05.has_mk ?a ?l ?c ?k; (case a => k_is); (case l => k_is); (case c => k_is); (case k => k_is))
    (case h29 => refine' K05.has_mk ?a ?l ?c ?k; (case a => k_is); (case l => k_is); (case c => k_is); (case k => k_is))
    (case h19 => refine' K05.has_mk ?a ?l ?c ?k; (case a => k_is); (case l => k_is); (case c => k_is); (case k => k_is))
    (case h30 => refine' K05.has_mk ?a ?l ?c ?k; (case a => k_is); (case l => k_is); (case c => k_is); (case k => k_is))
    (case h35 => refine' K05.has_mk ?a ?l ?c ?k; (case a => k_is); (case l => k_is); (case c => k_is); (case k => k_is))
    (case h36 => refine' K05.has_mk ?a ?l ?c ?k; (case a => k_is); (case l => k_is); (case c => k_is); (case k => k_is))
    (case h46 => refine' K05.has_mk ?a ?l ?c ?k; (case a => k_is); (case l => k_is); (case c => k_is); (case k => k_is))
    (case h47 => refine' K05.has_mk ?a ?l ?c ?k; (case a => k_is); (case l => k_is); (case c => k_is); (case k => k_is))
    (case h48 => refine' K05.has_mk ?a ?l ?c ?k; (case a => k_is); (case l => k_is); (case c => k_is); (case k => k_is))
    (case h61 => refine' K05.has_mk ?a ?l ?c ?k; (case a => k_is); (case l => k_is); (case c => k_is); (case k => k_is))
    (case h62 => refine' K05.has_mk ?a ?l ?c ?k; (case a => k_is); (case l => k_is); (case c => k_is); (case k => k_is))
    (case h63 => refine' K05.has_mk ?a ?l ?c ?k; (case a => k_is); (case l => k_is); (case c => k_is); (case k => k_is))
    (case h64 => refine' K05.has_mk ?a ?l ?c ?k; (case a => k_is); (case l => k_is); (case c => k_is); (case k => k_is))
    (case h56 => refine' K05.has_mk ?a ?l ?c ?k; (case a => k_is); (case l => k_is); (case c => k_is); (case k => k_is))
    (case h55 => refine' K05.has_mk ?a ?l ?c ?k; (case a => k_is); (case l => k_is); (case c => k_is); (case k => k_is))
    (case h60 => refine' K05.has_mk ?a ?l ?c ?k; (case a => k_is); (case l => k_is); (case c => k_is); (case k => k_is))
    (case h66 => refine' K05.has_mk ?a ?l ?c ?k; (case a => k_is); (case l => k_is); (case c => k_is); (case k => k_is))
    (case h65 => refine' K05.has_mk ?a ?l ?c ?k; (case a => k_is); (case l => k_is); (case c => k_is); (case k => k_is))
    (case h67 => refine' K05.has_mk ?a ?l ?c ?k; (case a => k_is); (case l => k_is); (case c => k_is); (case k => k_is))
    (case c0 => refine' K05.hasInt_mk ?a; (case a => k_is))
    (case c1 => refine' K05.hasInt_mk ?a; (case a => k_is))
    (case c2 => refine' K05.hasInt_mk ?a; (case a => k_is))
    (case z0 => (show PySem.W.nsIn _ mainGlobals _ = some none); k_is)
    (case z1 => (show PySem.W.nsIn _ mainGlobals _ = some none); k_is)
    (case z2 => (show PySem.W.nsIn _ mainGlobals _ = some none); k_is)
    (case z3 => (show PySem.W.nsIn _ mainGlobals _ = some none); k_is)
    (case z4 => (show PySem.W.nsIn _ mainGlobals _ = some none); k_is)
    (case z5 => (show PySem.W.nsIn _ mainGlobals _ = some none); k_is)
    (case z6 => (show PySem.W.nsIn _ mainGlobals _ = some none); k_is)
    (case z7 => (show PySem.W.nsIn _ mainGlobals _ = some none); k_is)
    (case z8 => (show PySem.W.nsIn _ mainGlobals _ = some none); k_is)
    (case z9 => (show PySem.W.nsIn _ mainGlobals _ = some none); k_is)
    (case z10 => (show PySem.W.nsIn _ mainGlobals _ = some none); k_is)
    (case z11 => (show PySem.W.nsIn _ mainGlobals _ = some none); k_is)
    (case z12 => (show PySem.W.nsIn _ mainGlobals _ = some none); k_is)
    (case z13 => (show PySem.W.nsIn _ mainGlobals _ = some none); k_is)
    (case z14 => (show PySem.W.nsIn _ mainGlobals _ = some none); k_is)
    (case z15 => (show PySem.W.nsIn _ mainGlobals _ = some none); k_is)
    (case z16 => (show PySem.W.nsIn _ mainGlobals _ = some none); k_is)
    (case m0 => (show PySem.W.nsIn _ mainGlobals _ = some (some (.type "itertools.combinations"))); k_is)
    (case x0 => k_is)
    (case zv => (show PySem.W.nsIn _ mainGlobals _ = some none); k_is)
    (case x1 => refine' GL.hasErr_mk ?a1 ?a2 ?a3 ?a4 ?a5 ?a6 ?a7 ?b1 ?b2 ?b3 ?b4 ?b5 ?b6 ?b7 ?b8 ?b9 ?b10 ?c1 ?c2 ?c3 ?c4; (case a1 => k_is); (case a2 => k_is); (case a3 => decide +kernel); (case a4 => k_is); (case a5 => k_is); (case a6 => k_is); (case a7 => k_is); (case b1 => k_is); (case b2 => k_is); (case b3 => k_is); (case b4 => k_is); (case b5 => k_is); (case b6 => k_is); (case b7 => k_is); (case b8 => k_is); (case b9 => k_is); (case b10 => k_is); (case c1 => k_is); (case c2 => k_is); (case c3 => k_is); (case c4 => k_is))
    (case x2 => refine' GL.hasErr_mk ?a1 ?a2 ?a3 ?a4 ?a5 ?a6 ?a7 ?b1 ?b2 ?b3 ?b4 ?b5 ?b6 ?b7 ?b8 ?b9 ?b10 ?c1 ?c2 ?c3 ?c4; (case a1 => k_is); (case a2 => k_is); (case a3 => decide +kernel); (case a4 => k_is); (case a5 => k_is); (case a6 => k_is); (case a7 => k_is); (case b1 => k_is); (case b2 => k_is); (case b3 => k_is); (case b4 => k_is); (case b5 => k_is); (case b6 => k_is); (case b7 => k_is); (case b8 => k_is); (case b9 => k_is); (case b10 => k_is); (case c1 => k_is); (case c2 => k_is); (case c3 => k_is); (case c4 => k_is))
    (case x3 => refine' GL.hasErr_mk ?a1 ?a2 ?a3 ?a4 ?a5 ?a6 ?a7 ?b1 ?b2 ?b3 ?b4 ?b5 ?b6 ?b7 ?b8 ?b9 ?b10 ?c1 ?c2 ?c3 ?c4; (case a1 => k_is); (case a2 => k_is); (case a3 => decide +kernel); (case a4 => k_is); (case a5 => k_is); (case a6 => k_is); (case a7 => k_is); (case b1 => k_is); (case b2 => k_is); (case b3 => k_is); (case b4 => k_is); (case b5 => k_is); (case b6 => k_is); (case b7 => k_is); (case b8 => k_is); (case b9 => k_is); (case b10 => k_is); (case c1 => k_is); (case c2 => k_is); (case c3 => k_is); (case c4 => k_is))
    (case x4 => refine' GL.hasErr_mk ?a1 ?a2 ?a3 ?a4 ?a5 ?a6 ?a7 ?b1 ?b2 ?b3 ?b4 ?b5 ?b6 ?b7 ?b8 ?b9 ?b10 ?c1 ?c2 ?c3 ?c4; (case a1 => k_is); (case a2 => k_is); (case a3 => decide +kernel); (case a4 => k_is); (case a5 => k_is); (case a6 => k_is); (case a7 => k_is); (case b1 => k_is); (case b2 => k_is); (case b3 => k_is); (case b4 => k_is); (case b5 => k_is); (case b6 => k_is); (case b7 => k_is); (case b8 => k_is); (case b9 => k_is); (case b10 => k_is); (case c1 => k_is); (case c2 => k_is); (case c3 => k_is); (case c4 => k_is))
    (case x5 => refine' GL.hasErr_mk ?a1 ?a2 ?a3 ?a4 ?a5 ?a6 ?a7 ?b1 ?b2 ?b3 ?b4 ?b5 ?b6 ?b7 ?b8 ?b9 ?b10 ?c1 ?c2 ?c3 ?c4; (case a1 => k_is); (case a2 => k_is); (case a3 => decide +kernel); (case a4 => k_is); (case a5 => k_is); (case a6 => k_is); (case a7 => k_is); (case b1 => k_is); (case b2 => k_is); (case b3 => k_is); (case b4 => k_is); (case b5 => k_is); (case b6 => k_is); (case b7 => k_is); (case b8 => k_is); (case b9 => k_is); (case b10 => k_is); (case c1 => k_is); (case c2 => k_is); (case c3 => k_is); (case c4 => k_is))
    (case x6 => refine' GL.hasErr_mk ?a1 ?a2 ?a3 ?a4 ?a5 ?a6 ?a7 ?b1 ?b2 ?b3 ?b4 ?b5 ?b6 ?b7 ?b8 ?b9 ?b10 ?c1 ?c2 ?c3 ?c4; (case a1 => k_is); (case a2 => k_is); (case a3 => decide +kernel); (case a4 => k_is); (case a5 => k_is); (case a6 => k_is); (case a7 => k_is); (case b1 => k_is); (case b2 => k_is); (case b3 => k_is); (case b4 => k_is); (case b5 => k_is); (case b6 => k_is); (case b7 => k_is); (case b8 => k_is); (case b9 => k_is); (case b10 => k_is); (case c1 => k_is); (case c2 => k_is); (case c3 => k_is); (case c4 => k_is))
    (case y0 => k_is)
    (case y1 => k_is)
    (case y2 => k_is)
    (case ym1 => k_is)
    (case yv1 => k_is)
    (case ym2 => k_is)
    (case yv2 => k_is)
    (case ym3 => k_is)
    (case yv3 => k_is)
    (case ym4 => k_is)
    (case yv4 => k_is)
    (case ym5 => k_is)
    (case yv5 => k_is)
    (case ym6 => k_is)
    (case yv6 => k_is)
    (case ys1_1 => k_is)
    (case ys1_2 => k_is)
    (case ys1_3 => k_is)
    (case ys1_4 => k_is)
    (case ys1_5 => k_is)
    (case ys1_6 => k_is)
    (case ys2_1 => k_is)
    (case ys2_2 => k_is)
    (case ys2_3 => k_is)
    (case ys2_4 => k_is)
    (case ys2_5 => k_is)
    (case ys2_6 => k_is)
    (case ys3_1 => k_is)
    (case ys3_2 => k_is)
    (case ys3_3 => k_is)
    (case ys3_4 => k_is)
    (case ys3_5 => k_is)
    (case ys3_6 => k_is)
    (case ys4_1 => k_is)
    (case ys4_2 => k_is)
    (case ys4_3 => k_is)
    (case ys4_4 => k_is)
    (case ys4_5 => k_is)
    (case ys4_6 => k_is)
    (case ys5_1 => k_is)
    (case ys5_2 => k_is)
    (case ys5_3 => k_is)
    (case ys5_4 => k_is)
    (case ys5_5 => k_is)
    (case ys5_6 => k_is)
    (case ys6_1 => k_is)
    (case ys6_2 => k_is)
    (case ys6_3 => k_is)
    (case ys6_4 => k_is)
    (case ys6_5 => k_is)
    (case ys6_6 => k_is)

