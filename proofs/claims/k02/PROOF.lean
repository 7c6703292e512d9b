import PyProof.Rows.All
import Wide.All
import OpenK.AllK
import Wide.FinOn
import PyProof.ReprRoads
import HandS.ForMost
import HandS.IsInst
import HandS.Wide
import HandS.WideBits
import HandS.Conv
import HandS.Style
import HandS.Flow
import HandS.Walk
import HandS.Zip
import HandS.Deep
import KE.SortData
import KE.OsSetLaws
import HandS.RepeatKit
import HandS.Sort
import HandS.SortInts
import KE.OsSort
import HandS.TryOnly
import PySem.Challenge.RW_twinties_k02_whole_standing_alike
set_option Elab.async false
set_option linter.all false
set_option maxRecDepth 100000
set_option maxHeartbeats 4000000
/-! Defs whose promise is told where no guard of a repr stands around: a def that asks repr of a list holds its promise there alone. -/
namespace GL
open PySem PySem.Spec PyProof.Rows L2

/-- a def's promise, told of calls around which no repr is under way -/
structure FnG (P : Program) (w : World) (K : PySem.W.Frag) (mg : Str → Option Value) (base : Heap) (CX : CXT) (k : Nat) (f : Addr) (fd : FuncData) (ps : List Str) (sp : Sp) : Prop where
  many : ∀ vs H Q E, sp vs H Q E → vs.length = ps.length
  goes : ∀ (A : Around) (outer : List Env) (s : Shared) (H : Hp) (args : Args) (us : List Value) (vs : List V) (Q : VK) (E : XK), A.guards = some [] → Room k A →
    Env0 P w K mg base A outer s H → BindsTo s fd args (ps.zip us) → Vals vs us → sp vs H Q E → codeAny (model P w) A (.call (.ref f) args) (CR CX outer P w H s Q E) s

section
variable {P : Program} {w : World} {K : PySem.W.Frag} {mg : Str → Option Value} {base : Heap} {CX : CXT} {k : Nat} {f : Addr} {fd : FuncData} {ps : List Str} {sp : Sp}
theorem FnG.of (F : FnOk P w K mg base CX k f fd ps sp) : FnG P w K mg base CX k f fd ps sp := ⟨F.len, fun A o s H a us vs Q E _ => F.run A o s H a us vs Q E⟩
end

section
variable {P : Program} {w : World} {K : PySem.W.Frag} {mg : Str → Option Value} {base : Heap}
/-- the body's walk gives the promise -/
theorem FnG.mk' {x qual : Str} {st : Stmt} {f : Addr} {fd : FuncData} {N ps : List Str} {k : Nat} {sp : Sp} (F : Fun K x qual st f fd) (S : FnScope N ps (defScope st)) (many : ∀ vs H Q E, sp vs H Q E → vs.length = ps.length)
    (walk : ∀ (cdv : Value) (A : Around) (outer : List Env) (s : Shared) (H : Hp) (vs : List V) (Q : VK) (E : XK), A.guards = some [] → Room k (A.deeper (envOfC qual (defScope st) s.heap.objs.size f cdv)) → sp vs H Q E →
      ∃ t, PSs (cxOf CX0 P w K mg base N qual (defScope st) f cdv A outer s H E).nox (defBody st) t ∧ t { nx := fun _ H' => Q .non H', rt := Q } (start N vs) H) : FnG P w K mg base CX0 (k + 1) f fd ps sp := by
  obtain ⟨oc, od, kV, doc, pm, an, cdv, ct, osl, efd, lk, hcd⟩ := F.ex
  subst efd
  refine ⟨many, ?_⟩
  intro A outer s H args us vs Q E hg hr e0 hb rv hsp
  have cnt := many _ _ _ _ hsp
  have up : ∀ b o, base.get? b = some o → s.heap.get? b = some o := fun b o e => (e0.bs b o e).1
  have inK : K.In s.heap := e0.mod.kin.keeps up
  have kinds : ∀ y ∈ ps.zip us, (defScope st).names.lookup y.1 = some .local ∨ ((defScope st).names.lookup y.1 = some .cell ∧ ((cellsFrom (s.heap.objs.size + 1) (defScope st).names []).lookup y.1).isSome = true) := by
    rintro ⟨n, v⟩ hy
    exact (S.par n (List.of_mem_zip hy).1).elim (fun q => .inl q) fun q => .inr ⟨q, PySem.W.cellsFrom_some _ _ _ (.inl q)⟩
  refine codeAny_call_function hr.depth (inK _ _ lk) rfl S.co S.gen rfl (PySem.W.codeRec_of inK hcd) (hb _ _ _ _ (wpAny_newFunctionEnv_cells S.kind kinds fun env he s1 x => ?_))
  subst he
  refine ⟨(e0.mod.nolimit.keeps up).keeps x.toInCall.keep, codeAny_func ?_⟩
  obtain ⟨t, ht, hq⟩ := walk cdv A outer s H vs Q E hg (hr.deeper _) hsp
  refine wpAny_mono (ht.nox.run [] s1 (start N vs) H _ (inv_start S hr.hd e0 cnt rv x) hq) (fun fl s' hs => ?_) fun e s' hs => hs
  cases fl with
  | next => exact let ⟨σ', H', J, q⟩ := hs; ⟨V.non, H', J.os, J.bare, J.base, J.hok, rfl, q⟩
  | ret u => exact let ⟨v, σ', H', J, rr, q⟩ := hs; ⟨v, H', J.os, J.bare, J.base, J.hok, rr, q⟩
  | brk => obtain ⟨σ', H', J, q⟩ := hs; exact q.elim
  | cont => obtain ⟨σ', H', J, q⟩ := hs; exact q.elim
end
end GL

namespace GL
open PySem PySem.Spec PyProof.Rows L2
open L2 (Room)
/-! ### a call of such a def from a body around which no guard stands -/
section
variable {X : Cx} {CX : CXT} {k : Nat} {f : Addr} {fd : FuncData} {ps : List Str} {sp : Sp} {ds : List Value} {dvs : List V} {E : XK} {x : Str} {e : Expr} {es : List Expr} {t : TA} {p pos : Pos}
theorem FnG.used {pins : List (Addr × Obj)} {σ : L2.St} {H : Hp} {s : Shared} {Q : VK} {us : List Value} {vs : List V} (F : FnG X.prog X.w X.K X.mg X.base CX k f fd ps sp) (hg : X.A.guards = some []) (hr : Room k X.A) (hb : Binds X.K fd ps ds)
    (hd : Vals dvs ds) (hx : Passes CX X E) (I : Inv X pins σ H s) (r : Vals vs us) (h : sp (vs ++ dvs) H Q E) : wpAny (model X.prog X.w) X.A (call (.ref f) us) (EP X pins σ Q) X.xe s := by
  have both : Vals (vs ++ dvs) (us ++ ds) := r.append hd
  have cnt : (us ++ ds).length = ps.length := (both.length).symm.trans (F.many _ _ _ _ h)
  refine wpAny_call (codeAny_mono (F.goes X.A X.stack s H ⟨us, []⟩ (us ++ ds) (vs ++ dvs) Q E hg hr I.env0 (hb s us I.kIn cnt) both h) ?_)
  rintro (er | fl) s' q
  · exact hx pins σ H s er s' I q
  · match fl, q with
    | .ret u, q => exact I.after q
theorem pe_callG (F : FnG X.prog X.w X.K X.mg X.base CX k f fd ps sp) (hgd : X.A.guards = some []) (hr : Room k X.A) (hg : Gl X x) (hm : X.mg x = some (.ref f)) (hk : PySem.W.keepIn X.K (.ref f) = true) (hb : Binds X.K fd ps ds) (hd : Vals dvs ds) (hx : Passes CX X E)
    (ha : PA X (e :: es) t) (hdb : (x == ("__debug__" : Str)) = false := by decide) (he : starEach (e :: es) X.env = (false, eval e X.env) :: starEach es X.env := by rfl) (hpl : (backTo pos (starEach es X.env)).any (·.1) = false := by rfl) :
    PE X (.Call (.Name x p) (e :: es) [] pos) (tCall sp dvs E t) :=
  ⟨fun pins s σ H Q I h => wpAny_Call_Name_kw (ld_glob I hg hm (PySem.W.callWith_K (h₀ := X.base) I.ok.mod.kin hk (thn (ha.run pos pins s σ H _ I h) fun us s1 hh => by
    obtain ⟨vs, H1, I1, r, q⟩ := hh
    exact ⟨I1.kIn, F.used hgd hr hb hd hx I1 r q⟩) he hpl) hdb)⟩
end
/-! ### the end -/
theorem law_callG {P : Program} {w : World} {K : PySem.W.Frag} {mg mb : Str → Option Value} {k : Nat} {fa a : Addr} {fd : FuncData} {x : Str} {sp : Sp} {s₁ : Shared} {vs : List Value} {ns : List Int}
    (KX : K.In s₁.heap) (hns : s₁.heap.Ns mainGlobals mg) (hb : s₁.heap.Ns builtinsNs mb) (hbb : ∀ x : Str, x ≠ "__name__" → mb x = bootBuiltins x) (hlim : s₁.heap.NoLimit) (hgen : s₁.gens = #[])
    (ha : s₁.heap.get? a = some { cls := .type "list", data := .seq vs.toArray }) (hi : IntsAre vs ns) (hl : ns.length ≤ sizeLine) (hr : Room k callerA)
    (F : ∀ base : Heap, K.In base → base.Ns mainGlobals mg → FnG P w K mg base CX0 k fa fd [x] sp) (hbind : ∀ (s : Shared) (u : Value), BindsTo s fd ⟨[u], []⟩ [(x, u)])
    (hsp : ∀ H : Hp, Only H → SqL K H a (ns.map V.int) → sp [.ref a] H (fun v _ => v = .bl true) fun _ _ _ => False) :
    codeAny (model P w) callerA (.call (.ref fa) ⟨[.ref a], []⟩) (fun r s' => r = .ok (.ret (.bool true)) ∧ OldK s₁.heap s'.heap ∧ s'.os = s₁.os ∧ AllBare s'.gens) s₁ := by
  have vals := vals_ints hi
  have cnt := hi.length
  -- whichever heap of tracked things holds the script alone
  suffices main : ∀ H : Hp, Only H → SqL K H a (ns.map V.int) → HOk P w H s₁.heap → (∀ b, H b ≠ none → b = a ∧ K.lookup a = none) →
      codeAny (model P w) callerA (.call (.ref fa) ⟨[.ref a], []⟩) (fun r s' => r = .ok (.ret (.bool true)) ∧ OldK s₁.heap s'.heap ∧ s'.os = s₁.os ∧ AllBare s'.gens) s₁ by
    by_cases hk : ∃ o, K.lookup a = some o
    · obtain ⟨o, hk⟩ := hk
      have eo : o = { cls := .type "list", data := .seq vs.toArray } := Option.some.inj ((KX a o hk).symm.trans ha)
      subst eo
      exact main (fun _ => none) (fun _ => Or.inl rfl) (Or.inr ⟨_, vs.toArray, _, hk, rfl, rfl, rfl, by rw [List.size_toArray, cnt]; exact hl, by simpa using vals⟩) (fun b u z => nomatch (show (none : Option HO) = some u from z)) fun b z => (z rfl).elim
    · have hk0 : K.lookup a = none := by
        cases q : K.lookup a with
        | none => rfl
        | some o => exact (hk ⟨o, q⟩).elim
      refine main (fun b => if b = a then some (.frz { cls := .type "list", data := .seq vs.toArray } (.lst (ns.map V.int))) else none) ?_ (Or.inl (Or.inr ⟨_, if_pos rfl⟩)) ?_ ?_
      · intro b
        by_cases e : b = a
        · exact Or.inr ⟨_, _, if_pos e⟩
        · exact Or.inl (if_neg e)
      · intro b u z
        by_cases e : b = a
        · subst e
          have z' := Option.some.inj ((if_pos rfl).symm.trans z)
          subst z'
          exact ⟨ha, by rw [List.length_map]; exact hl, vs, _, vals, ha⟩
        · exact nomatch ((if_neg e).symm.trans z : (none : Option HO) = some u)
      · intro b z
        by_cases e : b = a
        · exact ⟨e, hk0⟩
        · exact (z (if_neg e)).elim
  intro H hO hS hok hA
  have free : ∀ {b : Addr} {o : Obj} {es : Array DictEntry} {ep : Nat}, s₁.heap.get? b = some o → o.data = .dict es ep → H b = none := by
    intro b o es ep e d
    cases q : H b with
    | none => rfl
    | some u =>
      have eb := (hA b (by rw [q]; exact fun z => nomatch z)).1
      subst eb
      have eo := Option.some.inj (ha.symm.trans e)
      subst eo
      exact nomatch (show Data.seq vs.toArray _ = Data.dict es ep from d)
  have space : ∀ {b : Addr} {m : Str → Option Value}, s₁.heap.Ns b m → (hidT s₁.heap H).Ns b m := by
    rintro b m ⟨o, es, ep, e, d, r⟩
    exact ⟨o, es, ep, hidT_get e (free e d), d, r⟩
  have inB : K.In (hidT s₁.heap H) := by
    intro b o e
    refine hidT_get (KX b o e) ?_
    cases q : H b with
    | none => rfl
    | some u =>
      obtain ⟨eb, n⟩ := hA b (by rw [q]; exact fun z => nomatch z)
      subst eb
      exact nomatch (n.symm.trans e)
  have md : Mod K mg (hidT s₁.heap H) := ⟨inB, space hns, ⟨mb, space hb, hbb⟩, by obtain ⟨mc, h1, h2⟩ := hlim; exact ⟨mc, space h1, h2⟩⟩
  have en : Env0 P w K mg (hidT s₁.heap H) callerA [] s₁ H :=
    { frames := rfl, mod := md, bs := fun b o e => of_hidT e, bsz := Nat.le_of_eq (hidT_size _ _), funs := trivial, frf := fun b z => (List.not_mem_nil z).elim, hok := hok, bare := .of_eq hgen }
  refine codeAny_mono ((F _ inB (space hns)).goes callerA [] s₁ H ⟨[.ref a], []⟩ [.ref a] [.ref a] _ _ rfl hr en (hbind s₁ (.ref a)) (.cons rfl .nil) (hsp H hO hS)) ?_
  rintro (er | fl) s' h
  · exact (show False from h).elim
  · match fl, h with
    | .ret u, h =>
      obtain ⟨v, H', os, bare, un, hok', rr, q⟩ := h
      have ev : v = .bl true := q
      subst ev
      have eu : u = Value.bool true := rr
      subst eu
      refine ⟨rfl, OldK.of_keep ?_, os, bare⟩
      intro b o e
      rcases hO b with z | ⟨ob, xs, z⟩
      · exact un.keep b o e z (fun z => (List.not_mem_nil z).elim) (fun z => (List.not_mem_nil z).elim)
      · have e1 := (hok b _ z).1
        have e2 := (hok' b _ (un.frzs b ob _ z)).1
        exact e2.trans (e1.symm.trans e)
theorem walk_ofG {l : PySem.W.OpenLaw} {n k : Nat} {q : Program} {loose : List Str} {XP : (Str → Option Value) → Heap → Prop} {YP : World → Heap → Prop} {d : DefRec} {K : Params → PySem.W.Frag} {sp : PySem.W.Frag → Sp} {x : Str}
    (hn : l.most = some n) (hn2 : n ≤ sizeLine) (hdf : d.params.defaults = []) (hr : Room k callerA) (hY : ∀ (w : World) (h : Heap), YP w h → (K w.params).In h)
    (F : ∀ (w : World) (mg : Str → Option Value) (fa : Addr) (h : Heap), (K w.params).In h → h.Ns mainGlobals mg → mg d.name = some (.ref fa) →
      ∃ fd : FuncData, (∀ (s : Shared) (u : Value), BindsTo s fd ⟨[u], []⟩ [(x, u)]) ∧ ∀ base : Heap, (K w.params).In base → base.Ns mainGlobals mg → FnG l.prog w (K w.params) mg base CX0 k fa fd [x] (sp (K w.params)))
    (hsp : ∀ (K : PySem.W.Frag) (H : Hp) (a : Addr) (ns : List Int), ns.length ≤ n → Only H → SqL K H a (ns.map V.int) → sp K [.ref a] H (fun v _ => v = .bl true) fun _ _ _ => False) :
    PySem.W.WalkO q loose XP YP l.row.toRowW d [] (fun f vs => PySem.call f vs) := by
  refine Att.attach_call hn hdf ?_
  intro w s₀ s₁ mg mb fa o pm cd doc a vs ns G Y ho hd hcd hmg hobj hints hlen hgen
  obtain ⟨fd, hb, hF⟩ := F w mg fa _ (hY w _ Y) G.T.g hmg
  exact law_callG (hY w _ Y) G.T.g G.T.b G.T.builtins G.T.nolimit hgen hobj hints (Nat.le_trans hlen hn2) hr hF hb fun H hO hS => hsp _ H a ns hlen hO hS

/-! ### data -/
mutual
/-- x stands for the datum d: lists, tuples, empty dicts -/
inductive Dt (K : PySem.W.Frag) (H : Hp) : V → PyData → Prop
  | non : Dt K H .non .none
  | bl (b : Bool) : Dt K H (.bl b) (.bool b)
  | int (i : Int) : Dt K H (.int i) (.int i)
  | str (x : Str) : Dt K H (.str x) (.str x)
  | lst {a : Addr} {xs : List V} {ds : List PyData} : H a = some (.lst xs) → Dts K H xs ds → Dt K H (.ref a) (.list ds)
  | tup {a : Addr} {xs : List V} {ds : List PyData} : H a = some (.tup xs) → Dts K H xs ds → Dt K H (.ref a) (.tuple ds)
  | dct {a : Addr} : H a = some (.dK []) → Dt K H (.ref a) (.dict [])
inductive Dts (K : PySem.W.Frag) (H : Hp) : List V → List PyData → Prop
  | nil : Dts K H [] []
  | cons {v : V} {vs : List V} {d : PyData} {ds : List PyData} : Dt K H v d → Dts K H vs ds → Dts K H (v :: vs) (d :: ds)
end
section
variable {X : Cx} {pins : List (Addr × Obj)} {σ : L2.St} {H : Hp} {s : Shared}
theorem Dt.obL {K : PySem.W.Frag} {a : Addr} {xs : List V} (I : Inv X pins σ H s) (h : H a = some (.lst xs)) : ∃ (its : List Value) (n : Nat), Vals xs its ∧ s.heap.get? a = some { cls := .type "list", data := .seq its.toArray n } :=
  let ⟨_, its, n, rv, ho⟩ := (show ObjOk X.prog X.w H s.heap a (.lst xs) from I.hok _ _ h)
  ⟨its, n, rv, ho⟩
theorem Dt.obT {a : Addr} {xs : List V} (I : Inv X pins σ H s) (h : H a = some (.tup xs)) : ∃ (its : List Value) (o : Obj) (n : Nat), Vals xs its ∧ s.heap.get? a = some o ∧ o.cls = .type "tuple" ∧ o.data = .seq its.toArray n :=
  let ⟨_, its, rv, o, h1, h2, n, h3⟩ := (show ObjOk X.prog X.w H s.heap a (.tup xs) from I.hok _ _ h)
  ⟨its, o, n, rv, h1, h2, h3⟩
theorem Dt.obD {a : Addr} (I : Inv X pins σ H s) (h : H a = some (.dK [])) : ∃ (o : Obj) (n : Nat), s.heap.get? a = some o ∧ o.cls = .type "dict" ∧ o.data = .dict #[] n ∧ (a == sysModules) = false := by
  obtain ⟨_, hsys, vs, hv, o, es, ep, h1, h2, h3, _, h4, _⟩ := (show ObjOk X.prog X.w H s.heap a (.dK []) from I.hok _ _ h)
  cases hv
  have e : es = #[] := by
    cases es with
    | mk l => 
      have z : l = [] := by
        cases h4
        rfl
      rw [z]
  subst e
  exact ⟨o, ep, h1, h2.1, h3, hsys⟩
mutual
theorem Dt.reads (I : Inv X pins σ H s) : ∀ (d : PyData) (v : V) (u : Value), Dt X.K H v d → RelV v u → ∃ as, Reads s.heap u d as
  | .none, _, _, h, r => by
    cases h
    cases r
    exact ⟨_, .none⟩
  | .bool b, _, _, h, r => by
    cases h
    cases r
    exact ⟨_, .bool b⟩
  | .int i, _, _, h, r => by
    cases h
    obtain ⟨t, rfl⟩ := r
    exact ⟨_, .int i t⟩
  | .str x, _, _, h, r => by
    cases h
    obtain ⟨t, rfl⟩ := r
    exact ⟨_, .str x t⟩
  | .list ds, v, _, h, r => by
    cases h with
    | lst hs ha =>
      cases r
      obtain ⟨its, n, rv, ho⟩ := Dt.obL (K := X.K) I hs
      obtain ⟨as, hr⟩ := Dt.readsAll I ds _ its ha rv
      exact ⟨_, .list ho rfl rfl hr⟩
  | .tuple ds, _, _, h, r => by
    cases h with
    | tup hs ha =>
      cases r
      obtain ⟨its, o, n, rv, h1, h2, h3⟩ := Dt.obT I hs
      obtain ⟨as, hr⟩ := Dt.readsAll I ds _ its ha rv
      exact ⟨_, .tuple h1 h2 h3 hr⟩
  | .dict kvs, _, _, h, r => by
    cases h with
    | dct hs =>
      cases r
      obtain ⟨o, n, h1, h2, h3, _⟩ := Dt.obD I hs
      exact ⟨_, .dict h1 h2 h3 .nil .nil⟩
theorem Dt.readsAll (I : Inv X pins σ H s) : ∀ (ds : List PyData) (vs : List V) (us : List Value), Dts X.K H vs ds → Vals vs us → ∃ as, ReadsAll s.heap us ds as
  | [], _, _, h, r => by
    cases h
    cases r
    exact ⟨_, .nil⟩
  | d :: ds, _, _, h, r => by
    cases h with
    | cons h1 h2 =>
      cases r with
      | cons r1 r2 =>
        obtain ⟨as, q1⟩ := Dt.reads I d _ _ h1 r1
        obtain ⟨bs, q2⟩ := Dt.readsAll I ds _ _ h2 r2
        exact ⟨_, .cons q1 q2⟩
end
theorem dictText_nil : dictText [] = ("{}" : Str) := by decide +kernel
mutual
theorem Dt.rep (I : Inv X pins σ H s) : ∀ (d : PyData) (v : V) (u : Value), Dt X.K H v d → RelV v u → d.showable = true → d.shown.length ≤ sizeLine → ∃ bs, ReadAtMost s.heap d.depth bs ∧ ReprK X.prog X.w bs s.heap d.depth u d.shown
  | .none, _, _, h, r, _, _ => by
    cases h
    cases r
    exact ⟨[], (fun _ z => nomatch z), by simp only [PyData.shown]; exact .of_is ReprIs.none _ _ _⟩
  | .bool b, _, _, h, r, _, _ => by
    cases h
    cases r
    exact ⟨[], (fun _ z => nomatch z), by simp only [PyData.shown]; exact .of_is (ReprIs.bool b) _ _ _⟩
  | .int i, _, _, h, r, hs, _ => by
    cases h
    obtain ⟨t, rfl⟩ := r
    exact ⟨[], (fun _ z => nomatch z), by simp only [PyData.shown]; exact .of_is (ReprIs.int t (by simpa [PyData.showable] using hs)) _ _ _⟩
  | .str x, _, _, h, r, _, hz => by
    cases h
    obtain ⟨t, rfl⟩ := r
    exact ⟨[], (fun _ z => nomatch z), by simp only [PyData.shown]; exact .of_is (ReprIs.str x t (by simpa only [PyData.shown] using hz)) _ _ _⟩
  | .list ds, v, u, h, r, hs, hz => by
    obtain ⟨as0, whole⟩ := Dt.reads I (.list ds) v u h r
    have hz' : (listText (PyData.shownAll ds)).length ≤ sizeLine := by simpa only [PyData.shown] using hz
    cases h with
    | lst hh ha =>
      cases r
      obtain ⟨its, n, rv, ho⟩ := Dt.obL (K := X.K) I hh
      obtain ⟨bs, hb, hk⟩ := Dt.repAll I ds _ its ha rv (by simpa [PyData.showable] using hs) fun t ht => Nat.le_trans (listText_mem_le ht) hz'
      have out := not_mem_of_deeper whole (n := PyData.depthAll ds) (by simp only [PyData.depth]; omega) hb
      refine ⟨_ :: bs, ReadAtMost.cons whole (by simp only [PyData.depth]; omega) hb, ?_⟩
      simp only [PyData.depth, PyData.shown]
      cases its with
      | nil =>
        cases rv
        cases ha
        simp only [PyData.shownAll, listText_nil]
        exact ReprK.listEmpty ho rfl rfl
      | cons x l => exact ReprK.list ho rfl rfl out (by simpa using hk.length_eq) fun i y e => hk.item i y (by simpa using e)
  | .tuple ds, v, u, h, r, hs, hz => by
    obtain ⟨as0, whole⟩ := Dt.reads I (.tuple ds) v u h r
    have hz' : (tupleText (PyData.shownAll ds)).length ≤ sizeLine := by simpa only [PyData.shown] using hz
    cases h with
    | tup hh ha =>
      cases r
      obtain ⟨its, o, n, rv, h1, h2, h3⟩ := Dt.obT I hh
      obtain ⟨bs, hb, hk⟩ := Dt.repAll I ds _ its ha rv (by simpa [PyData.showable] using hs) fun t ht => Nat.le_trans (tupleText_mem_le ht) hz'
      have out := not_mem_of_deeper whole (n := PyData.depthAll ds) (by simp only [PyData.depth]; omega) hb
      refine ⟨_ :: bs, ReadAtMost.cons whole (by simp only [PyData.depth]; omega) hb, ?_⟩
      simp only [PyData.depth, PyData.shown]
      exact ReprK.tuple h1 h2 h3 out hk
  | .dict kvs, v, u, h, r, hs, hz => by
    obtain ⟨as0, whole⟩ := Dt.reads I (.dict kvs) v u h r
    cases h with
    | dct hh =>
      cases r
      obtain ⟨o, n, h1, h2, h3, h4⟩ := Dt.obD I hh
      refine ⟨[_], ReadAtMost.cons whole (Nat.le_refl _) (fun _ z => nomatch z), ?_⟩
      simp only [PyData.depth, PyData.shown, PyData.shownKv]
      exact ReprK.dict h1 h2 h3 h4 (by simp) .nil
theorem Dt.repAll (I : Inv X pins σ H s) : ∀ (ds : List PyData) (vs : List V) (us : List Value), Dts X.K H vs ds → Vals vs us → PyData.showableAll ds = true → (∀ t ∈ PyData.shownAll ds, t.length ≤ sizeLine) →
    ∃ bs, ReadAtMost s.heap (PyData.depthAll ds) bs ∧ ReprAllK X.prog X.w bs s.heap (PyData.depthAll ds) us (PyData.shownAll ds)
  | [], _, _, h, r, _, _ => by
    cases h
    cases r
    exact ⟨[], (fun _ z => nomatch z), by simp only [PyData.shownAll]; exact .nil⟩
  | d :: ds, _, _, h, r, hs, hz => by
    have hs' : d.showable = true ∧ PyData.showableAll ds = true := by simpa [PyData.showableAll] using hs
    cases h with
    | cons h1 h2 =>
      cases r with
      | cons r1 r2 =>
        obtain ⟨b1, hb1, k1⟩ := Dt.rep I d _ _ h1 r1 hs'.1 (hz _ (by simp [PyData.shownAll]))
        obtain ⟨b2, hb2, k2⟩ := Dt.repAll I ds _ _ h2 r2 hs'.2 fun t ht => hz t (by simp [PyData.shownAll, ht])
        refine ⟨b1 ++ b2, fun b hm => ?_, ?_⟩
        · rcases List.mem_append.mp hm with z | z
          · obtain ⟨d', as', r', q⟩ := hb1 b z
            exact ⟨d', as', r', Nat.le_trans q (by simp only [PyData.depthAll]; omega)⟩
          · obtain ⟨d', as', r', q⟩ := hb2 b z
            exact ⟨d', as', r', Nat.le_trans q (by simp only [PyData.depthAll]; omega)⟩
        · simp only [PyData.depthAll, PyData.shownAll]
          exact .cons ((k1.more fun b z => List.mem_append_left _ z).level_le (by omega)) (k2.more_le (fun b z => List.mem_append_right _ z) (by omega))
end
/-- repr(x), x data -/
def rRepD (K : PySem.W.Frag) : List V → Hp → VK → Prop := fun xs H Q => ∃ x d, xs = [x] ∧ Dt K H x d ∧ d.showable = true ∧ d.shown.length ≤ sizeLine ∧ d.depth ≤ 60 ∧ Q (.str d.shown) H
theorem call_repD (hg : X.A.guards = some []) (hu : X.A.units + 64 < cLine) : CallR X (.builtin "repr") (rRepD X.K) := by
  intro pins s σ H xs us Q I r h
  obtain ⟨x, d, rfl, hd, hs, hz, hn, q⟩ := h
  obtain ⟨u, rfl, r1⟩ := vals1 r
  have back : ∀ (h' : Heap) (t : Tok) (tk : Nat), (∀ b o, s.heap.get? b = some o → h'.get? b = some o) → EP X pins σ Q (.str d.shown t) { s with heap := h', toks := tk } := fun h' t tk k =>
    ⟨.str d.shown, H, I.kept k, ⟨t, rfl⟩, q⟩
  cases d with
  | none =>
    cases hd
    cases r1
    exact PySem.P.repr_of_none (back _ _ _ fun _ _ e => e)
  | bool b =>
    cases hd
    cases r1
    exact PySem.P.repr_of_bool (back _ _ _ fun _ _ e => e)
  | int i =>
    cases hd
    obtain ⟨t, rfl⟩ := r1
    exact PySem.P.repr_of_int (by simpa [PyData.showable] using hs) (back _ _ _ fun _ _ e => e)
  | str y =>
    cases hd
    obtain ⟨t, rfl⟩ := r1
    exact PySem.P.repr_of_str (back _ _ _ fun _ _ e => e) (by simpa only [PyData.shown] using hz)
  | list ds =>
    obtain ⟨as0, whole⟩ := Dt.reads I (.list ds) x u hd r1
    have hz' : (listText (PyData.shownAll ds)).length ≤ sizeLine := by simpa only [PyData.shown] using hz
    cases hd with
    | lst hh ha =>
      cases r1
      obtain ⟨its, n, rv, ho⟩ := Dt.obL (K := X.K) I hh
      obtain ⟨bs, hb, hk⟩ := Dt.repAll I ds _ its ha rv (by simpa [PyData.showable] using hs) fun t ht => Nat.le_trans (listText_mem_le ht) hz'
      have out := not_mem_of_deeper whole (n := PyData.depthAll ds) (by simp only [PyData.depth]; omega) hb
      simp only [PyData.depth] at hn
      refine call_repr_slot (by omega) ⟨_, ho, rfl⟩ F.slot_list_repr.toG ?_
      cases its with
      | nil =>
        cases rv
        cases ha
        simp only [PyData.shown, PyData.shownAll, listText_nil] at back
        exact call_list_repr_empty ⟨_, ho, rfl⟩ ho rfl ⟨_, _, rfl, back s.heap _ _ fun _ _ e => e⟩
      | cons y l =>
        simp only [PyData.shown] at back
        exact call_list_reprK ho rfl rfl out (by simpa using hk.length_eq) (fun i y e => hk.item i y (by simpa using e)) hg (fun b _ => Clear.nil b) (by show X.A.units + 1 + _ < _; omega) (fun _ _ e => e) (fun h' u tk k => ⟨_, _, rfl, back h' u tk k⟩) hz'
  | tuple ds =>
    obtain ⟨as0, whole⟩ := Dt.reads I (.tuple ds) x u hd r1
    have hz' : (tupleText (PyData.shownAll ds)).length ≤ sizeLine := by simpa only [PyData.shown] using hz
    cases hd with
    | tup hh ha =>
      cases r1
      obtain ⟨its, o, n, rv, h1, h2, h3⟩ := Dt.obT I hh
      obtain ⟨bs, hb, hk⟩ := Dt.repAll I ds _ its ha rv (by simpa [PyData.showable] using hs) fun t ht => Nat.le_trans (tupleText_mem_le ht) hz'
      have out := not_mem_of_deeper whole (n := PyData.depthAll ds) (by simp only [PyData.depth]; omega) hb
      simp only [PyData.depth] at hn
      simp only [PyData.shown] at back
      exact call_repr_slot (by omega) ⟨o, h1, h2⟩ F.slot_tuple_repr (call_tuple_reprK h1 h2 h3 out hk hg (fun b _ => Clear.nil b) (by show X.A.units + 1 + _ < _; omega) (fun _ _ e => e) (fun h' u tk k => ⟨_, _, rfl, back h' u tk k⟩) hz')
  | dict kvs =>
    cases hd with
    | dct hh =>
      cases r1
      obtain ⟨o, n, h1, h2, h3, h4⟩ := Dt.obD I hh
      simp only [PyData.shown, PyData.shownKv] at back hz
      exact call_repr_slot (by omega) ⟨o, h1, h2⟩ F.slot_dict_repr (call_dict_reprK (as := []) (d := 0) h1 h2 h3 h4 (by simp) .nil hg (fun b _ => Clear.nil b) (by show X.A.units + 1 + _ < _; omega) (fun _ _ e => e) (fun h' u tk k => ⟨_, _, rfl, back h' u tk k⟩) hz)
end
end GL

namespace GL
open PySem PySem.Spec PyProof.Rows L2
/-! ### a def of the text, ready to be called -/
structure Use (P : Program) (w : World) (K : PySem.W.Frag) (mg : Str → Option Value) (base : Heap) (x : Str) (ps : List Str) (sp : Sp) (k : Nat) : Prop where
  ex : ∃ f fd, FnOk P w K mg base CX0 k f fd ps sp ∧ mg x = some (.ref f) ∧ PySem.W.keepIn K (.ref f) = true ∧ Binds K fd ps []
structure UseG (P : Program) (w : World) (K : PySem.W.Frag) (mg : Str → Option Value) (base : Heap) (x : Str) (ps : List Str) (sp : Sp) (k : Nat) : Prop where
  ex : ∃ f fd, FnG P w K mg base CX0 k f fd ps sp ∧ mg x = some (.ref f) ∧ PySem.W.keepIn K (.ref f) = true ∧ Binds K fd ps []
section
variable {X : Cx} {ps : List Str} {sp : Sp} {x : Str} {e : Expr} {es : List Expr} {t : TA} {p pos : Pos} {k : Nat}
theorem pe_use (U : Use X.prog X.w X.K X.mg X.base x ps sp k) (hr : Room k X.A) (hg : Gl X x) (ha : PA X (e :: es) t)
    (hdb : (x == ("__debug__" : Str)) = false := by decide) (he : starEach (e :: es) X.env = (false, eval e X.env) :: starEach es X.env := by rfl) (hpl : (backTo pos (starEach es X.env)).any (·.1) = false := by rfl) :
    PE X (.Call (.Name x p) (e :: es) [] pos) (tCall sp [] E0 t) := by
  obtain ⟨f, fd, F, hm, hk, hb⟩ := U.ex
  exact pe_call F hr hg hm hk hb .nil pass0 ha hdb he hpl
theorem pe_useG (U : UseG X.prog X.w X.K X.mg X.base x ps sp k) (hgd : X.A.guards = some []) (hr : Room k X.A) (hg : Gl X x) (ha : PA X (e :: es) t)
    (hdb : (x == ("__debug__" : Str)) = false := by decide) (he : starEach (e :: es) X.env = (false, eval e X.env) :: starEach es X.env := by rfl) (hpl : (backTo pos (starEach es X.env)).any (·.1) = false := by rfl) :
    PE X (.Call (.Name x p) (e :: es) [] pos) (tCall sp [] E0 t) := by
  obtain ⟨f, fd, F, hm, hk, hb⟩ := U.ex
  exact pe_callG F hgd hr hg hm hk hb .nil pass0 ha hdb he hpl
/-- f(k = v, ..), nothing by place -/
theorem pe_kws {CX : CXT} {f : Addr} {fd : FuncData} {ks : List Str} {E : XK} {kws : List Keyword} {tk : TA} {g : List Value → List Value → List Value} {gV : List V → List V → List V}
    (F : FnOk X.prog X.w X.K X.mg X.base CX k f fd ps sp) (hr : Room k X.A) (hg : Gl X x) (hm : X.mg x = some (.ref f)) (hk : PySem.W.keepIn X.K (.ref f) = true) (hb : KBinds X.K fd ps ks g gV) (hx : Passes CX X E) (hkw : PK X kws tk)
    (hall : (backToKw pos (keywordEach kws X.env)).all (·.1.isSome) = true := by rfl) (hks : (backToKw pos (keywordEach kws X.env)).filterMap (·.1) = ks := by rfl) (hdb : (x == ("__debug__" : Str)) = false := by decide)
    (hpl : ((backTo pos (starEach [] X.env)).any (·.1) || (backToKw pos (keywordEach kws X.env)).any (·.1.isNone)) = false := by rfl) :
    PE X (.Call (.Name x p) [] kws pos) (tCallK sp gV E tNil tk) :=
  ⟨fun pins s σ H Q I h => wpAny_Call_Name_kw (ld_glob I hg hm (PySem.W.callWith_KW0 (h₀ := X.base) I.ok.mod.kin hk hall (thn (hkw.run pos pins s σ H _ I h) fun ws s2 hh => by
    obtain ⟨zs, H2, I2, rz, q2⟩ := hh
    refine ⟨I2.kIn, ?_⟩
    rw [hks]
    exact run_fnk F hr hb hx I2 .nil rz q2) hpl) hdb)⟩
end
/-! ### rules -/
section
variable {X : Cx} {pos : Pos}
def CPowW (i j : Int) : Prop := 0 ≤ j ∧ (Builtin.Int.intBits i : Int) * j ≤ 2 ^ 27
theorem op_powW : OpR X (binaryOp .Pow) (rI CPowW fun i j => .int (i ^ j.toNat)) := opI fun _ _ _ _ _ _ _ hc q => pow_int hc.1 hc.2 q
/-- xs != ys, ys an empty list -/
def rNeNil (K : PySem.W.Frag) : R2 := fun x y H Q => ∃ a b xs, x = .ref a ∧ y = .ref b ∧ SqL K H a xs ∧ SqL K H b [] ∧ Q (.bl (!xs.isEmpty)) H
theorem op_neNil (hu : X.A.units + 64 < cLine) : OpR X (compareOp .NotEq) (rNeNil X.K) := by
  intro pins s σ H x y v u Q I rx ry h
  obtain ⟨a, b, xs, rfl, rfl, ha, hb, q⟩ := h
  cases rx
  cases ry
  obtain ⟨is, ra, pa, _⟩ := I.list ha
  obtain ⟨js, rb, pb, _⟩ := I.list hb
  cases rb
  cases xs with
  | nil =>
    cases ra
    exact (SeqAt.RcNeAt.lists (e := fun _ => true) pa.isList pb.isList rfl (by omega) (fun j h1 => absurd h1 (by simp))) _ _ _ _ ⟨.bl _, H, I, rfl, q⟩
  | cons z zs =>
    cases ra with
    | cons r1 r2 => exact (SeqAt.RcNeAt.lists_lengths pa.isList pb.isList (by simp) (by omega)) _ _ _ _ ⟨.bl _, H, I, rfl, q⟩
/-- xs[::0 - 1] -/
theorem pe_revB {e : Expr} {te : TE} {k k2 : Nat} {p1 p2 p3 p4 : Pos} (he : PE X e te) : PE X (.Subscript e (.Slice none none (some (.BinOp (.Constant (.int 0) k p1) .Sub (.Constant (.int 1) k2 p4) p2)) p3) pos) (tRevL X.K te) := by
  refine ⟨fun pins s σ H Q I h => Subscript_ (thn (he.run pins s σ H _ I h) ?_)⟩
  rintro v s1 ⟨x, H1, I1, r1, a, xs, rfl, hx, q⟩
  cases r1
  have back : PO X (some (.BinOp (.Constant (.int 0) k p1) .Sub (.Constant (.int 1) k2 p4) p2)) (tPart (tOp (rI0 fun i j => .int (i - j)) (tC (.int 0)) (tC (.int 1)))) := po_some (pe_op op_sub pe_int pe_int)
  refine wpAny_Slice (thn (po_none.run pins s1 σ H1 (fun o H2 => o = none ∧ H2 = H1) I1 ⟨rfl, rfl⟩) ?_)
  rintro vl s2 ⟨l, H2, I2, pl, rfl, rfl⟩
  refine thn (po_none.run pins s2 σ H2 (fun o H3 => o = none ∧ H3 = H2) I2 ⟨rfl, rfl⟩) ?_
  rintro vu s3 ⟨u, H3, I3, pu, rfl, rfl⟩
  refine thn (back.run pins s3 σ H3 (fun o H4 => o = some (-1) ∧ H4 = H3) I3 ⟨0, 1, rfl, rfl, -1, rfl, rfl, rfl⟩) ?_
  rintro vs s4 ⟨o, H4, I4, ps, rfl, rfl⟩
  have I5 : Inv X pins σ H4 { s4 with heap := s4.heap.push { cls := .type "slice", data := .fields #[vl, vu, vs] } } := I4.kept (t' := s4.toks) fun b ob q => Heap.get?_push_of_some _ q
  obtain ⟨its, r, ht, hz⟩ := I5.list hx
  have cnt := r.length
  refine tail_any (ops := [.ref a, .ref s4.heap.objs.size]) ht.isList.typeIs PySem.slot_list_getitem.lookup (wpAny_getItem_list_slice ht.isList (Heap.IsSliceOf.new _ vl vu vs) pl pu ps (by decide) ?_ (by rw [List.size_toArray]; omega)) (by with_unfolding_all rfl)
  rw [PySem.W.krv_pick]
  exact ⟨.ref _, _, I5.laid (t' := s4.toks) (o := .lst xs.reverse) (fun b ob q => Heap.get?_push_of_some _ q) (Nat.le_refl _) ⟨by rw [List.length_reverse]; exact hz, _, 0, r.reverse, Heap.get?_push_size _ rfl⟩, rfl, q _ (I5.hok.fresh (Nat.le_refl _))⟩
end
end GL

namespace K2
open PySem PySem.Spec PyProof.Rows L2 GL
def topS (i : Nat) : Stmt := PySem.Challenge.pw_twinties_k02_whole_standing_alike.main.body.getD i (.Pass ⟨0, 0, 0, 0⟩)
abbrev sHash : Stmt := topS 39
abbrev sRandom : Stmt := topS 40
abbrev sCell : Stmt := topS 41
abbrev sGen : Stmt := topS 42
/-- the built-in names that the text uses are still the built-in ones -/
structure Bi (mg : Str → Option Value) : Prop where
  int : mg "int" = none
  len : mg "len" = none
  sum : mg "sum" = none
  max : mg "max" = none
  min : mg "min" = none
  range : mg "range" = none
  isinstance : mg "isinstance" = none
  bool : mg "bool" = none
  list : mg "list" = none
  tuple : mg "tuple" = none
  all : mg "all" = none
  enumerate : mg "enumerate" = none
  repr : mg "repr" = none
  zip : mg "zip" = none
  any : mg "any" = none
  set : mg "set" = none
  sorted : mg "sorted" = none
section
variable {P : Program} {w : World} {K : PySem.W.Frag} {mg : Str → Option Value} {base : Heap}
/-! ### numbers drawn -/
theorem scHash : FnScope ["_law_seed", "_law_index", "_law_mixed"] ["_law_seed", "_law_index"] (defScope sHash) := ⟨rfl, rfl, rfl, by decide +kernel, rfl, by decide +kernel, by decide +kernel⟩
def spHash : Sp := fun vs H Q _ => ∃ b c : Int, vs = [.int b, .int c] ∧ 0 ≤ b ∧ b < 2147483647 ∧ 0 ≤ c ∧ c < 1099511627776 ∧ ∀ r : Int, 0 ≤ r → r < 2147483647 → Q (.int r) H
theorem ok_hash {f : Addr} {fd : FuncData} (F : Fun K "_law_hash" "_law_hash" sHash f fd) (T : Bi mg) : FnOk P w K mg base CX0 1 f fd ["_law_seed", "_law_index"] spHash := by
  refine F.ok scHash (fun vs H Q E h => ?_) (fun cdv A outer s H vs Q E hr h => ?_)
  · obtain ⟨b, c, rfl, _⟩ := h
    rfl
  · obtain ⟨b, c, rfl, hb0, hb1, hc0, hc1, q⟩ := h
    refine ⟨_, pss_cons (ps_set (i := 2) scHash.nd rfl (Or.inl rfl) (pe_op op_mod (pe_callTy call_int1 (by rfl) T.int PyProof.Rows.boot_int (pa_cons
        (pe_op op_add (pe_op op_add (pe_op op_add (pe_op op_mul (pv 0) pe_int) (pe_op op_mul (pe_op op_mul pe_int (pv 1)) (pv 1))) (pe_op op_mul pe_int (pv 1))) pe_int) pa_nil)) pe_int))
      (pss_cons (ps_set (i := 2) scHash.nd rfl (Or.inl rfl) (pe_op op_mod (pe_callTy call_int1 (by rfl) T.int PyProof.Rows.boot_int (pa_cons
        (pe_op op_add (pe_op op_add (pe_op op_mul (pv 2) (pv 2)) (pe_op op_mul pe_int (pv 1))) pe_int) pa_nil)) pe_int))
      (pss_one (ps_ret (pe_op op_mod (pe_callTy call_int1 (by rfl) T.int PyProof.Rows.boot_int (pa_cons (pe_op op_mul (pv 2) pe_int) pa_nil)) pe_int)))), ?_⟩
    refine ⟨_, rfl, _, _, rfl, rfl, .inl ⟨by omega, by omega⟩, _, rfl, _, _, rfl, rfl, .inl ⟨by omega, by omega⟩, _, rfl, _, _, rfl, rfl, .inr ⟨by omega, by omega⟩, _, _, rfl, rfl, _, rfl, _, _, rfl, rfl, .inl ⟨by omega, by omega⟩, _, _, rfl, rfl, _, _, rfl, rfl,
      .inl ⟨_, rfl, _, _, rfl, rfl, (by show (0 : Int) < 2147483629; decide), ?_⟩⟩
    generalize hm : (b * 1140671 + 27644437 * c * c + 131 * c + 19) % 2147483629 = m
    have m0 : 0 ≤ m := by rw [← hm]; exact Int.emod_nonneg _ (by decide)
    have m1 : m < 2147483629 := by rw [← hm]; exact Int.emod_lt_of_pos _ (by decide)
    refine ⟨_, rfl, _, rfl, _, _, rfl, rfl, .inl ⟨by omega, by omega⟩, _, rfl, _, _, rfl, rfl, .inl ⟨by omega, by omega⟩, _, _, rfl, rfl, _, _, rfl, rfl,
      .inl ⟨_, rfl, _, _, rfl, rfl, (by show (0 : Int) < 2147483587; decide), ?_⟩⟩
    generalize hn : (m * m + 62089 * c + 32416187) % 2147483587 = n
    have n0 : 0 ≤ n := by rw [← hn]; exact Int.emod_nonneg _ (by decide)
    have n1 : n < 2147483587 := by rw [← hn]; exact Int.emod_lt_of_pos _ (by decide)
    refine ⟨_, rfl, _, _, rfl, rfl, .inl ⟨by omega, by omega⟩, .inl ⟨_, rfl, _, _, rfl, rfl, (by show (0 : Int) < 2147483647; decide), ?_⟩⟩
    exact q _ (Int.emod_nonneg _ (by decide)) (Int.emod_lt_of_pos _ (by decide))
end
end K2

namespace K2
open PySem PySem.Spec PyProof.Rows L2 GL
/-- a list of three numbers that is drawn from: n are the draws' steps that are left -/
def Gen (H : Hp) (g : Addr) (n : Nat) : Prop := ∃ a b c : Int, H g = some (.lst [.int a, .int b, .int c]) ∧ 0 ≤ b ∧ b < 2147483647 ∧ 0 ≤ c ∧ c + n ≤ 1099511627000
theorem Gen.less {H : Hp} {g : Addr} {n m : Nat} (h : Gen H g n) (l : m ≤ n) : Gen H g m := by
  obtain ⟨a, b, c, h1, h2, h3, h4, h5⟩ := h
  exact ⟨a, b, c, h1, h2, h3, h4, by omega⟩
/-- all that was tracked but g is as it was -/
def But (g : Addr) (H H' : Hp) : Prop := ∀ b o, H b = some o → b ≠ g → H' b = some o
theorem But.refl {g : Addr} {H : Hp} : But g H H := fun _ _ e _ => e
theorem But.trans {g : Addr} {H H1 H2 : Hp} (a : But g H H1) (b : But g H1 H2) : But g H H2 := fun c o e n => b c o (a c o e n) n
theorem But.of {g : Addr} {H H' : Hp} (s : Same H H') : But g H H' := fun b o e _ => s b o e
theorem same_new {p : Addr} {H : Hp} {o : HO} (h : H p = none) : Same H (upd H p o) := fun b u e => by rw [upd_ne (ne_of_none e h)]; exact e
theorem But.new {g p : Addr} {H : Hp} {o : HO} (h : H p = none) : But g H (upd H p o) := .of (same_new h)
theorem But.put {g : Addr} {H : Hp} {o : HO} : But g H (upd H g o) := fun b o' e n => by rw [upd_ne n]; exact e
theorem Gen.ne {H : Hp} {g p : Addr} {n : Nat} (h : Gen H g n) (e : H p = none) : g ≠ p := by
  obtain ⟨a, b, c, h1, _⟩ := h
  exact ne_of_none h1 e
theorem Gen.new {H : Hp} {g p : Addr} {n : Nat} {o : HO} (h : Gen H g n) (e : H p = none) : Gen (upd H p o) g n := by
  have ne := h.ne e
  obtain ⟨a, b, c, h1, r⟩ := h
  exact ⟨a, b, c, by rw [upd_ne ne]; exact h1, r⟩
theorem Gen.other {H : Hp} {g p : Addr} {n : Nat} {o : HO} (h : Gen H g n) (ne : p ≠ g) : Gen (upd H p o) g n := by
  obtain ⟨a, b, c, h1, r⟩ := h
  exact ⟨a, b, c, by rw [upd_ne ne.symm]; exact h1, r⟩
section
variable {P : Program} {w : World} {K : PySem.W.Frag} {mg : Str → Option Value} {base : Heap}
theorem scRandom : FnScope ["_law_generator_here", "_law_bound", "_law_drawn", "_law_turn"] ["_law_generator_here", "_law_bound"] (defScope sRandom) := ⟨rfl, rfl, rfl, by decide +kernel, rfl, by decide +kernel, by decide +kernel⟩
def spRandom : Sp := fun vs H Q _ => ∃ (g : Addr) (m : Int) (n : Nat), vs = [.ref g, .int m] ∧ 0 < m ∧ m < 1329227995784915872903807060280344576 ∧ Gen H g (n + 5) ∧
  ∀ (r : Int) (H' : Hp), 0 ≤ r → r < m → Gen H' g n → But g H H' → Q (.int r) H'
theorem bits_le {m : Int} (h0 : 0 < m) (h : m < 1329227995784915872903807060280344576) : (Builtin.Int.intBits m : Int) / 30 ≤ 4 ∧ 0 ≤ (Builtin.Int.intBits m : Int) / 30 := by
  have l : m.natAbs < 2 ^ 120 := by omega
  have b : Builtin.Int.intBits m ≤ 120 := by
    have x := PySem.Flt.log2_lt_of (by decide : 0 < 120) l
    unfold Builtin.Int.intBits
    split <;> omega
  omega
theorem ok_random {f : Addr} {fd : FuncData} (F : Fun K "_law_random" "_law_random" sRandom f fd) (T : Bi mg) (UH : Use P w K mg base "_law_hash" ["_law_seed", "_law_index"] spHash 1) : FnOk P w K mg base CX0 2 f fd ["_law_generator_here", "_law_bound"] spRandom := by
  refine F.ok scRandom (fun vs H Q E h => ?_) (fun cdv A outer s H vs Q E hr h => ?_)
  · obtain ⟨g, m, n, rfl, _⟩ := h
    rfl
  · obtain ⟨g, m, n, rfl, m0, m1, G, q⟩ := h
    refine ⟨_, pss_cons (ps_if (pt_cmpR op_gt (pe_ix ix_list (pv 0) pe_int (fun _ _ => rfl)) pe_int (nomark _))
        (pss_cons (ps_set (i := 2) scRandom.nd rfl (Or.inl rfl) (pe_op op_mod (pe_callTy call_int1 (by rfl) T.int PyProof.Rows.boot_int (pa_cons (pe_ix ix_list (pv 0) pe_int (fun _ _ => rfl)) pa_nil)) (pv 1)))
        (pss_cons (ps_asg (pe_op op_fdivW (pe_ix ix_list (pv 0) pe_int (fun _ _ => rfl)) (pv 1)) (pg_sub (pv 0) pe_int set_list))
        (pss_one (ps_ret (pv 2))))) pss_nil)
      (pss_cons (ps_set (i := 2) scRandom.nd rfl (Or.inl rfl) pe_int)
      (pss_cons (ps_for PassesOwn.never rfl (pi_range1 (by rfl) T.range (pa_cons (pe_op op_add pe_int (pe_op op_fdiv (pe_bits (pv 1)) pe_int)) pa_nil)) (pg_name (i := 3) scRandom.nd rfl (Or.inl rfl))
        (pss_cons (ps_asg (pe_op op_add (pe_ix ix_list (pv 0) pe_int (fun _ _ => rfl)) pe_int) (pg_sub (pv 0) pe_int set_list))
        (pss_one (ps_set (i := 2) scRandom.nd rfl (Or.inl rfl) (pe_op op_add (pe_op op_mul (pv 2) pe_int)
          (pe_use UH hr (by rfl) (pa_cons (pe_ix ix_list (pv 0) pe_int (fun _ _ => rfl)) (pa_cons (pe_ix ix_list (pv 0) pe_int (fun _ _ => rfl)) pa_nil))))))))
      (pss_one (ps_ret (pe_op op_mod (pe_callTy call_int1 (by rfl) T.int PyProof.Rows.boot_int (pa_cons (pv 2) pa_nil)) (pv 1)))))), ?_⟩
    obtain ⟨a, b, c, hg, b0, b1, c0, c1⟩ := G
    refine ⟨_, rfl, g, _, _, _, rfl, rfl, SqL.of hg, at_of (j := 0) rfl rfl, _, _, rfl, rfl, _, rfl, ?_⟩
    by_cases ha : 0 < a
    · refine ite2 (fun _ => ?_) (fun z => absurd (decide_eq_true ha) z)
      refine ⟨_, rfl, g, _, _, _, rfl, rfl, SqL.of hg, at_of (j := 0) rfl rfl, .inl ⟨_, rfl, _, rfl, _, _, rfl, rfl, m0, ?_⟩⟩
      refine ⟨_, rfl, g, _, _, _, rfl, rfl, SqL.of hg, at_of (j := 0) rfl rfl, _, rfl, _, _, rfl, rfl, wide_div (b := 120) m0 (by omega) (by decide) (by decide), _, rfl, g, _, _, 0, rfl, rfl, hg, rfl, ?_⟩
      refine ⟨_, rfl, q _ _ (Int.emod_nonneg _ (by omega)) (Int.emod_lt_of_pos _ m0) ⟨_, b, c, upd_same, b0, b1, c0, by omega⟩ But.put⟩
    · refine ite2 (fun z => absurd (of_decide_eq_true z) ha) (fun _ => ?_)
      obtain ⟨u1, u0⟩ := bits_le m0 m1
      generalize hu : (Builtin.Int.intBits m : Int) / 30 = u at u0 u1
      refine ⟨_, rfl, _, rfl, _, _, rfl, rfl, ⟨by decide, by decide⟩, _, _, rfl, rfl, 1 + u, by rw [hu], by omega, by omega,
        for_range (lo := 0) (n := (1 + u).toNat) (fun i σ H' => ∃ (d : Int) (t : Option V) (c' : Int), σ = [some (.ref g), some (.int m), some (.int d), t] ∧ But g H H' ∧ H' g = some (.lst [.int a, .int b, .int c']) ∧ c ≤ c' ∧ c' ≤ c + i)
        ⟨0, none, c, rfl, But.refl, hg, by omega, by omega⟩ ?_ ?_⟩
      · rintro i σ H' hi ⟨d, t, c', rfl, bt, hg', c2, c3⟩
        refine ⟨_, rfl, g, _, _, _, rfl, rfl, SqL.of hg', at_of (j := 2) rfl rfl, _, _, rfl, rfl, _, rfl, g, _, _, 2, rfl, rfl, hg', rfl, ?_⟩
        refine ⟨_, rfl, _, _, rfl, rfl, .inr ⟨by decide, by decide⟩, _, rfl, g, _, _, _, rfl, rfl, SqL.of upd_same, at_of (j := 1) rfl rfl, _, rfl, g, _, _, _, rfl, rfl, SqL.of upd_same, at_of (j := 2) rfl rfl,
          b, c' + 1, rfl, b0, b1, by omega, by omega, fun r r0 r1 => ⟨_, _, rfl, rfl, ?_⟩⟩
        exact ⟨_, _, c' + 1, rfl, bt.trans But.put, upd_same, by omega, by omega⟩
      · rintro σ H' ⟨d, t, c', rfl, bt, hg', c2, c3⟩
        refine ⟨_, rfl, .inl ⟨_, rfl, _, rfl, _, _, rfl, rfl, m0, ?_⟩⟩
        exact q _ _ (Int.emod_nonneg _ (by omega)) (Int.emod_lt_of_pos _ m0) ⟨a, b, c', hg', b0, b1, by omega, by omega⟩ bt
end
end K2

namespace K2
open PySem PySem.Spec PyProof.Rows L2 GL
theorem cut_ints (ns : List Int) (lo hi : Option Int) : ∃ l : List Int, cutV (ns.map V.int) lo hi = l.map V.int ∧ l.length ≤ ns.length := by
  refine ⟨(ns.drop (HT.sIx (ns.map V.int).length 0 lo)).take (HT.sIx (ns.map V.int).length (ns.map V.int).length hi - HT.sIx (ns.map V.int).length 0 lo), ?_, ?_⟩
  · unfold cutV
    rw [← List.map_drop, ← List.map_take]
  · rw [List.length_take, List.length_drop]
    omega
section
variable {P : Program} {w : World} {K : PySem.W.Frag} {mg : Str → Option Value} {base : Heap}
theorem scCell : FnScope ["_law_script", "_law_index"] ["_law_script", "_law_index"] (defScope sCell) := ⟨rfl, rfl, rfl, by decide +kernel, rfl, by decide +kernel, by decide +kernel⟩
def spCell (K : PySem.W.Frag) : Sp := fun vs H Q _ => ∃ (a : Addr) (ns : List Int) (i : Nat), vs = [.ref a, .int i] ∧ SqL K H a (ns.map V.int) ∧ ∀ (r : Int) (H' : Hp), Same H H' → Q (.int r) H'
theorem ok_cell {f : Addr} {fd : FuncData} (F : Fun K "_law_cell" "_law_cell" sCell f fd) (T : Bi mg) : FnOk P w K mg base CX0 1 f fd ["_law_script", "_law_index"] (spCell K) := by
  refine F.ok scCell (fun vs H Q E h => ?_) (fun cdv A outer s H vs Q E hr h => ?_)
  · obtain ⟨a, ns, i, rfl, _⟩ := h
    rfl
  · obtain ⟨a, ns, i, rfl, hS, q⟩ := h
    refine ⟨_, pss_cons (ps_if (pt_cmpR op_lt (pv 1) (pe_callB call_len_seq (by rfl) T.len PySem.boot_len (pa_cons (pv 0) pa_nil)) (nomark _)) (pss_one (ps_ret (pe_ix ix_list (pv 0) (pv 1) (fun _ _ => rfl)))) pss_nil)
      (pss_one (ps_ret (pe_op op_mod (pe_callB (cr_sum rfl) (by rfl) T.sum (by decide +kernel) (pa_cons (pe_slice sl_list (pv 0) po_none (po_some pe_int)) pa_nil)) pe_int))), ?_⟩
    refine ⟨_, rfl, _, rfl, a, _, rfl, .inl hS, _, _, rfl, rfl, _, rfl, ite2 (fun c => ?_) (fun c => ?_)⟩
    · have hl := of_decide_eq_true c
      rw [List.length_map] at hl
      have hi : i < ns.length := by omega
      exact ⟨_, rfl, _, rfl, a, _, _, _, rfl, rfl, hS, at_of (j := i) rfl (by rw [List.getElem?_map, List.getElem?_eq_getElem hi]; rfl), q _ _ (Same.refl _)⟩
    · refine ⟨_, rfl, 1, rfl, a, _, rfl, hS, fun c nc => ?_⟩
      obtain ⟨l, el, _⟩ := cut_ints ns none (some 1)
      refine ⟨c, l, rfl, by rw [← el]; exact SqL.of upd_same, _, _, rfl, rfl, (by show (0 : Int) < 1000003; decide), q _ _ (same_new nc)⟩
theorem scGen : FnScope ["_law_script", "_law_index", "_law_seed"] ["_law_script", "_law_index"] (defScope sGen) := ⟨rfl, rfl, rfl, by decide +kernel, rfl, by decide +kernel, by decide +kernel⟩
def spGen (K : PySem.W.Frag) : Sp := fun vs H Q _ => ∃ (a : Addr) (ns : List Int) (i : Nat), vs = [.ref a, .int i] ∧ i ≤ 100 ∧ SqL K H a (ns.map V.int) ∧ ∀ (g : Addr) (H' : Hp), Same H H' → H g = none → Gen H' g 1000000 → Q (.ref g) H'
theorem pow60 : CPowW ((10 : Int) ^ (60 : Int).toNat) 10 := ⟨by decide, by decide +kernel⟩
theorem pow600 : (0 : Int) < ((10 : Int) ^ (60 : Int).toNat) ^ (10 : Int).toNat := Int.pow_pos (Int.pow_pos (by decide))
theorem ok_gen {f : Addr} {fd : FuncData} (F : Fun K "_law_generator" "_law_generator" sGen f fd) (T : Bi mg) (U : Use P w K mg base "_law_cell" ["_law_script", "_law_index"] (spCell K) 1) : FnOk P w K mg base CX0 2 f fd ["_law_script", "_law_index"] (spGen K) := by
  refine F.ok scGen (fun vs H Q E h => ?_) (fun cdv A outer s H vs Q E hr h => ?_)
  · obtain ⟨a, ns, i, rfl, _⟩ := h
    rfl
  · obtain ⟨a, ns, i, rfl, hi, hS, q⟩ := h
    refine ⟨_, pss_cons (ps_set (i := 2) scGen.nd rfl (Or.inl rfl) (pe_use U hr (by rfl) (pa_cons (pv 0) (pa_cons (pv 1) pa_nil))))
      (pss_one (ps_ret (pe_lst (pa_cons (pe_op op_mod (pe_callTy call_int1 (by rfl) T.int PyProof.Rows.boot_int (pa_cons (pe_callB (call_max2 rfl) (by rfl) T.max (by decide +kernel) (pa_cons (pe_op op_sub (pv 2) (pe_op op_pow pe_int pe_int)) (pa_cons pe_int pa_nil))) pa_nil)) (pe_op op_powW (pe_op op_pow pe_int pe_int) pe_int))
        (pa_cons (pe_op op_mod (pe_callTy call_int1 (by rfl) T.int PyProof.Rows.boot_int (pa_cons (pv 2) pa_nil)) pe_int) (pa_cons (pe_op op_mul pe_int (pv 1)) pa_nil)))))), ?_⟩
    refine ⟨_, rfl, _, rfl, a, ns, i, rfl, hS, fun r H1 s1 => ?_⟩
    refine ⟨_, rfl, _, _, rfl, rfl, ⟨by decide, by decide, by decide⟩, _, _, rfl, rfl, _, _, rfl, .inl ⟨_, rfl, _, _, rfl, rfl, ⟨by decide, by decide, by decide⟩, _, _, rfl, rfl, pow60, _, _, rfl, rfl, pow600, ?_⟩⟩
    refine ⟨_, rfl, .inl ⟨_, rfl, _, _, rfl, rfl, (by show (0 : Int) < 2147483647; decide), _, rfl, _, _, rfl, rfl, .inl ⟨by decide, by decide⟩, (by show 3 ≤ sizeLine; decide), fun g hg => ?_⟩⟩
    exact q g _ (s1.trans (same_new hg)) (s1.free hg) ⟨_, _, _, upd_same, Int.emod_nonneg _ (by decide), Int.emod_lt_of_pos _ (by decide), by omega, by omega⟩
end
end K2

namespace GL
open PySem PySem.Spec PyProof.Rows L2
theorem same_new {p : Addr} {H : Hp} {o : HO} (h : H p = none) : Same H (upd H p o) := fun b u e => by rw [upd_ne (ne_of_none e h)]; exact e
mutual
theorem Dt.same {K : PySem.W.Frag} {H H' : Hp} (s : Same H H') : ∀ (d : PyData) (v : V), Dt K H v d → Dt K H' v d
  | .none, _, h => by cases h; exact .non
  | .bool b, _, h => by cases h; exact .bl b
  | .int i, _, h => by cases h; exact .int i
  | .str x, _, h => by cases h; exact .str x
  | .list ds, _, h => by
    cases h with
    | lst e a => exact .lst (s _ _ e) (Dts.same s ds _ a)
  | .tuple ds, _, h => by
    cases h with
    | tup e a => exact .tup (s _ _ e) (Dts.same s ds _ a)
  | .dict kvs, _, h => by
    cases h with
    | dct e => exact .dct (s _ _ e)
theorem Dts.same {K : PySem.W.Frag} {H H' : Hp} (s : Same H H') : ∀ (ds : List PyData) (vs : List V), Dts K H vs ds → Dts K H' vs ds
  | [], _, h => by cases h; exact .nil
  | d :: ds, _, h => by
    cases h with
    | cons a b => exact .cons (Dt.same s d _ a) (Dts.same s ds _ b)
end
theorem Dts.length {K : PySem.W.Frag} {H : Hp} : ∀ {vs : List V} {ds : List PyData}, Dts K H vs ds → vs.length = ds.length
  | _, _, .nil => rfl
  | _, _, .cons _ b => congrArg (· + 1) b.length
theorem Dts.get {K : PySem.W.Frag} {H : Hp} : ∀ {vs : List V} {ds : List PyData} {i : Nat} {v : V}, Dts K H vs ds → vs[i]? = some v → ∃ d, ds[i]? = some d ∧ Dt K H v d
  | _, _, i, v, .nil, e => by simp at e
  | _, _, 0, v, .cons a _, e => by
    cases e
    exact ⟨_, rfl, a⟩
  | _, _, i + 1, v, .cons _ b, e => b.get (i := i) (v := v) e
theorem Dts.append {K : PySem.W.Frag} {H : Hp} : ∀ {vs ws : List V} {ds es : List PyData}, Dts K H vs ds → Dts K H ws es → Dts K H (vs ++ ws) (ds ++ es)
  | _, _, _, _, .nil, z => z
  | _, _, _, _, .cons a b, z => .cons a (b.append z)
def tyOf : PyData → String
  | .none => "NoneType" | .bool _ => "bool" | .int _ => "int" | .str _ => "str" | .list _ => "list" | .tuple _ => "tuple" | .dict _ => "dict"
theorem Dt.ty {K : PySem.W.Frag} {H : Hp} {x : V} {d : PyData} (h : Dt K H x d) : TyX K H x (.type (tyOf d)) := by
  cases h with
  | non => exact .base .non
  | bl b => exact .base (.bl b)
  | int i => exact .base (.int i)
  | str x => exact .base (.str x)
  | lst e _ => exact .base (.lst e)
  | tup e _ => exact .base (.tup e)
  | dct e => exact .base (.dK e)
def isInt : PyData → Bool
  | .bool _ => true | .int _ => true | _ => false
def isBool : PyData → Bool
  | .bool _ => true | _ => false
def isList : PyData → Bool
  | .list _ => true | _ => false
theorem kit_int {K : PySem.W.Frag} (d : PyData) : PySem.W.kitOne K (.type (tyOf d)) (.type "int") = some (isInt d) := by
  cases d with
  | none => exact kit_ty (show kitB "NoneType" "int" = some false by decide +kernel)
  | bool _ => exact kit_ty (show kitB "bool" "int" = some true by decide +kernel)
  | int _ => exact kit_ty (show kitB "int" "int" = some true by decide +kernel)
  | str _ => exact kit_ty (show kitB "str" "int" = some false by decide +kernel)
  | list _ => exact kit_ty (show kitB "list" "int" = some false by decide +kernel)
  | tuple _ => exact kit_ty (show kitB "tuple" "int" = some false by decide +kernel)
  | dict _ => exact kit_ty (show kitB "dict" "int" = some false by decide +kernel)
theorem kit_bool {K : PySem.W.Frag} (d : PyData) : PySem.W.kitOne K (.type (tyOf d)) (.type "bool") = some (isBool d) := by
  cases d with
  | none => exact kit_ty (show kitB "NoneType" "bool" = some false by decide +kernel)
  | bool _ => exact kit_ty (show kitB "bool" "bool" = some true by decide +kernel)
  | int _ => exact kit_ty (show kitB "int" "bool" = some false by decide +kernel)
  | str _ => exact kit_ty (show kitB "str" "bool" = some false by decide +kernel)
  | list _ => exact kit_ty (show kitB "list" "bool" = some false by decide +kernel)
  | tuple _ => exact kit_ty (show kitB "tuple" "bool" = some false by decide +kernel)
  | dict _ => exact kit_ty (show kitB "dict" "bool" = some false by decide +kernel)
theorem kit_list {K : PySem.W.Frag} (d : PyData) : PySem.W.kitOne K (.type (tyOf d)) (.type "list") = some (isList d) := by
  cases d with
  | none => exact kit_ty (show kitB "NoneType" "list" = some false by decide +kernel)
  | bool _ => exact kit_ty (show kitB "bool" "list" = some false by decide +kernel)
  | int _ => exact kit_ty (show kitB "int" "list" = some false by decide +kernel)
  | str _ => exact kit_ty (show kitB "str" "list" = some false by decide +kernel)
  | list _ => exact kit_ty (show kitB "list" "list" = some true by decide +kernel)
  | tuple _ => exact kit_ty (show kitB "tuple" "list" = some false by decide +kernel)
  | dict _ => exact kit_ty (show kitB "dict" "list" = some false by decide +kernel)
theorem yes_of {σ : L2.St} {H : Hp} {A B : Bool → Hp → Prop} (h : A true H) : tYes σ H (fun b H' => if b = true then A b H' else B b H') := by
  show (if true = true then A true H else B true H)
  exact iteT h
end GL

namespace K2
open PySem PySem.Spec PyProof.Rows L2 GL
abbrev sWhole : Stmt := topS 12
abbrev sBelow : Stmt := topS 13
abbrev sKinds : Stmt := topS 14
abbrev sRow : Stmt := topS 15
abbrev sCompOf : Stmt := topS 16
abbrev sCheck : Stmt := topS 20
/-! ### what a company is -/
def whole (d : PyData) : Bool := isInt d && !isBool d
def below (k : Int) : PyData → Bool
  | .int i => decide (0 ≤ i) && decide (i < k)
  | _ => false
def rowOk (k n : Int) : PyData → Bool
  | .list ds => decide ((ds.length : Int) = n) && ds.all (below k)
  | _ => false
def rowsOk (k : Int) : Nat → List PyData → Bool
  | _, [] => true
  | n, d :: ds => rowOk k n d && rowsOk k (n + 1) ds
def compOk (k : Int) : PyData → Bool
  | .list ds => (decide (1 ≤ ds.length) && decide (ds.length ≤ 40)) && rowsOk k 0 ds
  | _ => false
section
variable {P : Program} {w : World} {K : PySem.W.Frag} {mg : Str → Option Value} {base : Heap}
theorem scWhole : FnScope ["value"] ["value"] (defScope sWhole) := ⟨rfl, rfl, rfl, by decide +kernel, rfl, by decide +kernel, by decide +kernel⟩
def spWhole (K : PySem.W.Frag) : Sp := fun vs H Q _ => ∃ x d, vs = [x] ∧ Dt K H x d ∧ Q (.bl (whole d)) H
theorem ok_whole {f : Addr} {fd : FuncData} (F : Fun K "is_whole" "is_whole" sWhole f fd) (T : Bi mg) : FnOk P w K mg base CX0 1 f fd ["value"] (spWhole K) := by
  refine F.ok scWhole (fun vs H Q E h => ?_) (fun cdv A outer s H vs Q E hr h => ?_)
  · obtain ⟨x, d, rfl, _⟩ := h
    rfl
  · obtain ⟨x, d, rfl, hd, q⟩ := h
    refine ⟨_, pss_one (ps_ret (pe_and (pe_callB call_isi (by rfl) T.isinstance (by decide +kernel) (pa_cons (pv 0) (pa_cons (pe_bltn (v := .ty "int") (by rfl) T.int PyProof.Rows.boot_int rfl) pa_nil)))
      (pe_one (pe_not (pe_callB call_isi (by rfl) T.isinstance (by decide +kernel) (pa_cons (pv 0) (pa_cons (pe_bltn (v := .ty "bool") (by rfl) T.bool (by decide +kernel) rfl) pa_nil))))))), ?_⟩
    refine ⟨_, rfl, _, _, _, _, _, rfl, .ty "int", hd.ty, kit_int d, _, rfl, ?_⟩
    cases e : isInt d with
    | false =>
      refine iteF ?_
      have z : whole d = false := by unfold whole; rw [e]; rfl
      rw [← z]
      exact q
    | true =>
      refine iteT ⟨_, rfl, _, _, _, _, _, rfl, .ty "bool", hd.ty, kit_bool d, _, rfl, ?_⟩
      have z : whole d = !isBool d := by unfold whole; rw [e]; rfl
      rw [← z]
      exact q
theorem scBelow : FnScope ["value", "bound"] ["value", "bound"] (defScope sBelow) := ⟨rfl, rfl, rfl, by decide +kernel, rfl, by decide +kernel, by decide +kernel⟩
def spBelow (K : PySem.W.Frag) : Sp := fun vs H Q _ => ∃ x d k, vs = [x, .int k] ∧ Dt K H x d ∧ Q (.bl (below k d)) H
theorem whole_cases (d : PyData) : (∃ i, d = .int i ∧ whole d = true) ∨ (whole d = false ∧ ∀ k, below k d = false) := by
  cases d with
  | int i => exact .inl ⟨i, rfl, rfl⟩
  | _ => exact .inr ⟨rfl, fun _ => rfl⟩
theorem ok_below {f : Addr} {fd : FuncData} (F : Fun K "is_below" "is_below" sBelow f fd) (U : Use P w K mg base "is_whole" ["value"] (spWhole K) 1) : FnOk P w K mg base CX0 2 f fd ["value", "bound"] (spBelow K) := by
  refine F.ok scBelow (fun vs H Q E h => ?_) (fun cdv A outer s H vs Q E hr h => ?_)
  · obtain ⟨x, d, k, rfl, _⟩ := h
    rfl
  · obtain ⟨x, d, k, rfl, hd, q⟩ := h
    refine ⟨_, pss_one (ps_ret (pe_and (pe_use U hr (by rfl) (pa_cons (pv 0) pa_nil)) (pe_one (pe_chain op_le op_lt pe_int (pv 0) (pv 1))))), ?_⟩
    refine ⟨_, rfl, _, d, rfl, hd, _, rfl, ?_⟩
    rcases whole_cases d with ⟨i, rfl, e⟩ | ⟨e, z⟩
    · rw [e]
      cases hd
      refine iteT ⟨_, rfl, _, _, rfl, rfl, _, rfl, ?_⟩
      cases c : decide ((0 : Int) ≤ i) with
      | true =>
        refine iteT ⟨_, rfl, _, _, rfl, rfl, ?_⟩
        have z : below k (.int i) = decide (i < k) := by
          show (decide (0 ≤ i) && decide (i < k)) = decide (i < k)
          rw [c, Bool.true_and]
        rw [z] at q
        exact q
      | false =>
        refine iteF ?_
        have z : below k (.int i) = false := by
          show (decide (0 ≤ i) && decide (i < k)) = false
          rw [c, Bool.false_and]
        rw [z] at q
        exact q
    · rw [e]
      refine iteF ?_
      rw [← z k]
      exact q
theorem scKinds : FnScope ["value"] ["value"] (defScope sKinds) := ⟨rfl, rfl, rfl, by decide +kernel, rfl, by decide +kernel, by decide +kernel⟩
def spKinds (K : PySem.W.Frag) : Sp := fun vs H Q _ => ∃ k : Int, vs = [.int k] ∧ 2 ≤ k ∧ k ≤ 9 ∧ Q (.bl true) H
/-- the bounds, as the text has written them -/
structure Cs (mg : Str → Option Value) : Prop where
  least : ∃ t, mg "LEAST_KINDS" = some (.int 2 t)
  most : ∃ t, mg "MOST_KINDS" = some (.int 9 t)
  people : ∃ t, mg "MOST_PEOPLE" = some (.int 40 t)
theorem ok_kinds {f : Addr} {fd : FuncData} (F : Fun K "are_kinds" "are_kinds" sKinds f fd) (C : Cs mg) (U : Use P w K mg base "is_whole" ["value"] (spWhole K) 1) : FnOk P w K mg base CX0 2 f fd ["value"] (spKinds K) := by
  refine F.ok scKinds (fun vs H Q E h => ?_) (fun cdv A outer s H vs Q E hr h => ?_)
  · obtain ⟨k, rfl, _⟩ := h
    rfl
  · obtain ⟨k, rfl, h2, h9, q⟩ := h
    obtain ⟨t1, c1⟩ := C.least
    obtain ⟨t2, c2⟩ := C.most
    refine ⟨_, pss_one (ps_ret (pe_and (pe_use U hr (by rfl) (pa_cons (pv 0) pa_nil)) (pe_one (pe_chain op_le op_le (pe_glob (v := .int 2) rfl c1 ⟨_, rfl⟩) (pv 0) (pe_glob (v := .int 9) rfl c2 ⟨_, rfl⟩))))), ?_⟩
    refine ⟨_, rfl, _, .int k, rfl, .int k, _, rfl, iteT ⟨_, rfl, _, _, rfl, rfl, _, rfl, ?_⟩⟩
    rw [decide_eq_true h2]
    rw [← decide_eq_true h9] at q
    exact iteT ⟨_, _, rfl, rfl, q⟩
theorem scRow : FnScope ["kinds", "many", "value", "kind"] ["kinds", "many", "value"] (defScope sRow) := ⟨rfl, rfl, rfl, by decide +kernel, rfl, by decide +kernel, by decide +kernel⟩
def spRow (K : PySem.W.Frag) : Sp := fun vs H Q _ => ∃ x d k n, vs = [.int k, .int n, x] ∧ n ≤ 1000 ∧ Dt K H x d ∧ ∀ H', Same H H' → Q (.bl (rowOk k n d)) H'
theorem take_more {α β : Type} (f : α → β) {l : List α} {i : Nat} {x : α} (h : l[i]? = some x) : (l.take (i + 1)).map f = (l.take i).map f ++ [f x] := by
  rw [List.take_add_one, h, List.map_append]
  rfl
theorem ok_row {f : Addr} {fd : FuncData} (F : Fun K "is_row" "is_row" sRow f fd) (T : Bi mg) (U : Use P w K mg base "is_below" ["value", "bound"] (spBelow K) 2) : FnOk P w K mg base CX0 3 f fd ["kinds", "many", "value"] (spRow K) := by
  refine F.ok scRow (fun vs H Q E h => ?_) (fun cdv A outer s H vs Q E hr h => ?_)
  · obtain ⟨x, d, k, n, rfl, _⟩ := h
    rfl
  · obtain ⟨x, d, k, n, rfl, hn, hd, q⟩ := h
    refine ⟨_, pss_one (ps_ret (pe_and (pe_callB call_isi (by rfl) T.isinstance (by decide +kernel) (pa_cons (pv 2) (pa_cons (pe_bltn (v := .ty "list") (by rfl) T.list PyProof.Rows.boot_list rfl) pa_nil)))
      (pe_and (pe_cmpR op_eq (pe_callB call_len_seq (by rfl) T.len PySem.boot_len (pa_cons (pv 2) pa_nil)) (pv 1) (nomark _))
      (pe_one (pe_callB (cr_all rfl) (by rfl) T.all (by decide +kernel) (pa_cons (pe_lc (own := [("kind", 3)]) (g := gName 3) (tt := tYes) rfl scRow.nd (pi_list (pv 2)) (blkOk_by (N := ["kinds", "many", "value", "kind"]) (sc := defScope sRow) (by decide +kernel))
        (fun _ _ _ _ _ => pg_name (i := 3) scRow.nd rfl (Or.inl rfl)) (fun _ _ _ _ _ => pts_nil) (fun _ _ _ _ _ => pe_use U hr (by rfl) (pa_cons (pv 3) (pa_cons (pv 0) pa_nil)))) pa_nil)))))), ?_⟩
    refine ⟨_, rfl, _, _, _, _, _, rfl, .ty "list", hd.ty, kit_list d, _, rfl, ?_⟩
    by_cases e : ∃ ds, d = .list ds
    · obtain ⟨ds, rfl⟩ := e
      cases hd with
      | @lst a xs _ ha hs =>
        have hl := hs.length
        refine iteT ⟨_, rfl, a, xs, rfl, .inl (SqL.of ha), _, rfl, rfl, _, rfl, ?_⟩
        rw [hl]
        by_cases c : (ds.length : Int) = n
        · rw [decide_eq_true (congrArg V.int c)]
          refine iteT ⟨_, rfl, a, rfl, ⟨_, SqL.of ha⟩, fun D hD => ?_⟩
          refine lc_list (K := K) (a := a) (xs := xs) (fun i H' => Same H H' ∧ H' D = some (.lst (((ds.take i).map (below k)).map V.bl))) ⟨same_new hD, upd_same⟩ (fun i H' _ z => (z.1).seq (SqL.of ha)) ?_ ?_
          · rintro i y H' hi ⟨s1, hD'⟩
            obtain ⟨dy, e1, d1⟩ := hs.get hi
            refine ⟨rfl, yes_of ?_⟩
            refine ⟨_, rfl, _, rfl, y, dy, k, rfl, Dt.same s1 dy _ d1, _, hD', ?_, ?_, ?_⟩
            · rw [List.length_map, List.length_map, List.length_take]
              exact small1000 (by omega)
            · exact fun b o z => by rw [upd_ne (ne_of_none z hD)]; exact s1 b o z
            · rw [upd_same, take_more (below k) e1, List.map_append]
              rfl
          · rintro H' ⟨s1, hD'⟩
            rw [hl, List.take_length] at hD'
            refine ⟨D, ds.map (below k), rfl, SqL.of hD', ?_⟩
            have z : rowOk k n (.list ds) = (ds.map (below k)).all id := by
              show (decide ((ds.length : Int) = n) && ds.all (below k)) = _
              rw [decide_eq_true c, Bool.true_and, List.all_map]
              rfl
            rw [← z]
            exact q _ s1
        · rw [decide_eq_false (fun z => c (V.int.inj z))]
          refine iteF ?_
          have z : rowOk k n (.list ds) = false := by
            show (decide ((ds.length : Int) = n) && ds.all (below k)) = false
            rw [decide_eq_false c]
            rfl
          rw [← z]
          exact q _ (Same.refl _)
    · have z : isList d = false ∧ rowOk k n d = false := by
        cases d with
        | list ds => exact (e ⟨ds, rfl⟩).elim
        | _ => exact ⟨rfl, rfl⟩
      rw [z.1]
      refine iteF ?_
      rw [← z.2]
      exact q _ (Same.refl _)
end
end K2

namespace K2
open PySem PySem.Spec PyProof.Rows L2 GL
theorem rowsOk_all (k : Int) : ∀ (ds : List PyData) (n : Nat), rowsOk k n ds = (((List.range ds.length).map fun j => rowOk k ((n + j : Nat) : Int) (ds.getD j .none))).all id
  | [], _ => rfl
  | d :: ds, n => by
    have ih := rowsOk_all k ds (n + 1)
    show (rowOk k n d && rowsOk k (n + 1) ds) = _
    rw [ih, List.length_cons, List.range_succ_eq_map, List.map_cons, List.map_map, List.all_cons]
    have e : (List.range ds.length).map (fun j => rowOk k ((n + 1 + j : Nat) : Int) (ds.getD j .none)) = (List.range ds.length).map ((fun j => rowOk k ((n + j : Nat) : Int) ((d :: ds).getD j .none)) ∘ Nat.succ) := by
      refine List.map_congr_left fun j _ => ?_
      show rowOk k ((n + 1 + j : Nat) : Int) (ds.getD j .none) = rowOk k ((n + (j + 1) : Nat) : Int) (ds.getD j .none)
      rw [show n + 1 + j = n + (j + 1) by omega]
    rw [e]
    rfl
theorem all_range_more (f : Nat → Bool) (i : Nat) : (((List.range (i + 1)).map f).map V.bl) = ((List.range i).map f).map V.bl ++ [V.bl (f i)] := by
  rw [List.range_succ, List.map_append, List.map_append]
  rfl
section
variable {P : Program} {w : World} {K : PySem.W.Frag} {mg : Str → Option Value} {base : Heap}
theorem scCompOf : FnScope ["kinds", "value", "person", "row"] ["kinds", "value"] (defScope sCompOf) := ⟨rfl, rfl, rfl, by decide +kernel, rfl, by decide +kernel, by decide +kernel⟩
def spCompOf (K : PySem.W.Frag) : Sp := fun vs H Q _ => ∃ x d k, vs = [.int k, x] ∧ Dt K H x d ∧ ∀ H', Same H H' → Q (.bl (compOk k d)) H'
theorem ok_compOf {f : Addr} {fd : FuncData} (F : Fun K "is_company_of" "is_company_of" sCompOf f fd) (T : Bi mg) (C : Cs mg) (U : Use P w K mg base "is_row" ["kinds", "many", "value"] (spRow K) 3) : FnOk P w K mg base CX0 4 f fd ["kinds", "value"] (spCompOf K) := by
  refine F.ok scCompOf (fun vs H Q E h => ?_) (fun cdv A outer s H vs Q E hr h => ?_)
  · obtain ⟨x, d, k, rfl, _⟩ := h
    rfl
  · obtain ⟨x, d, k, rfl, hd, q⟩ := h
    obtain ⟨t3, c3⟩ := C.people
    refine ⟨_, pss_cons (ps_if (PW.pt (pw_or (pt_not (pt_val (pe_callB call_isi (by rfl) T.isinstance (by decide +kernel) (pa_cons (pv 1) (pa_cons (pe_bltn (v := .ty "list") (by rfl) T.list PyProof.Rows.boot_list rfl) pa_nil)))))
        (pw_or1 (pt_not (pt_chain op_le op_le pe_int (pe_callB call_len_seq (by rfl) T.len PySem.boot_len (pa_cons (pv 1) pa_nil)) (pe_glob (v := .int 40) rfl c3 ⟨_, rfl⟩)))))) (pss_one (ps_ret pe_bl)) pss_nil)
      (pss_one (ps_ret (pe_callB (cr_all rfl) (by rfl) T.all (by decide +kernel) (pa_cons (pe_lc (own := [("person", 2), ("row", 3)]) (g := gTup K 2 (gCons (gName 2) (gCons (gName 3) gNil))) (tt := tYes) rfl scCompOf.nd (pi_enum (by rfl) T.enumerate (pa_cons (pv 1) pa_nil))
        (blkOk_by (N := ["kinds", "value", "person", "row"]) (sc := defScope sCompOf) (by decide +kernel)) (fun _ _ _ _ _ => pg_tup rfl (pgs_cons (pg_name (i := 2) scCompOf.nd rfl (Or.inl rfl)) (pgs_cons (pg_name (i := 3) scCompOf.nd rfl (Or.inl rfl)) pgs_nil)))
        (fun _ _ _ _ _ => pts_nil) (fun _ _ _ _ _ => pe_use U hr (by rfl) (pa_cons (pv 0) (pa_cons (pv 2) (pa_cons (pv 3) pa_nil))))) pa_nil)))), ?_⟩
    refine ⟨_, rfl, _, _, _, _, _, rfl, .ty "list", hd.ty, kit_list d, _, rfl, ?_⟩
    by_cases e : ∃ ds, d = .list ds
    · obtain ⟨ds, rfl⟩ := e
      cases hd with
      | @lst a xs _ ha hs =>
        have hl := hs.length
        refine iteF ⟨_, rfl, a, xs, rfl, .inl (SqL.of ha), _, _, rfl, rfl, _, rfl, ?_⟩
        rw [hl]
        by_cases c1 : (1 : Int) ≤ (ds.length : Int)
        · rw [decide_eq_true c1]
          refine iteT ⟨_, _, rfl, rfl, _, rfl, ?_⟩
          by_cases c2 : (ds.length : Int) ≤ 40
          · rw [decide_eq_true c2]
            refine iteF ⟨_, rfl, a, xs, rfl, SqL.of ha, fun D hD => ?_⟩
            refine lc_it (walk_enum (K := K) (a := a) (xs := xs)) (fun i H' => Same H H' ∧ H' D = some (.lst (((List.range i).map fun j => rowOk k ((0 + j : Nat) : Int) (ds.getD j .none)).map V.bl))) ⟨same_new hD, upd_same⟩ (fun i H' _ z => (z.1).seq (SqL.of ha)) ?_ ?_
            · rintro i y H' H'' hi ⟨s1, hD'⟩ ⟨T, x1, x2, rfl, nT, rfl, e1, e2⟩
              have e1' : x1 = .int (i : Nat) := (Option.some.inj e1).symm
              subst e1'
              obtain ⟨dy, f1, f2⟩ := hs.get e2
              have s2 := s1.trans (same_new (o := .tup [.int (i : Nat), x2]) nT)
              have ne : D ≠ T := ne_of_none hD' nT
              refine ⟨T, [.int (i : Nat), x2], rfl, SqT.of upd_same, rfl, _, _, rfl, _, _, rfl, rfl, rfl, yes_of ?_⟩
              refine ⟨_, rfl, _, rfl, _, rfl, x2, dy, k, i, rfl, by omega, Dt.same s2 dy _ f2, fun H3 s3 => ⟨_, s3 D _ (by rw [upd_ne ne]; exact hD'), ?_, ?_, ?_⟩⟩
              · rw [List.length_map, List.length_map, List.length_range]
                exact small1000 (by omega)
              · exact fun b o z => by rw [upd_ne (ne_of_none z hD)]; exact s3 b o (s2 b o z)
              · rw [upd_same, all_range_more]
                have ez : (0 + i : Nat) = i := Nat.zero_add i
                have eg : ds.getD i .none = dy := by rw [List.getD_eq_getElem?_getD, f1]; rfl
                rw [ez, eg]
            · rintro H' ⟨s1, hD'⟩
              refine ⟨D, _, rfl, SqL.of hD', ?_⟩
              rw [hl, ← rowsOk_all]
              have z : compOk k (.list ds) = rowsOk k 0 ds := by
                show ((decide (1 ≤ ds.length) && decide (ds.length ≤ 40)) && rowsOk k 0 ds) = _
                rw [decide_eq_true (by omega : 1 ≤ ds.length), decide_eq_true (by omega : ds.length ≤ 40)]
                rfl
              rw [← z]
              exact q _ s1
          · rw [decide_eq_false c2]
            refine iteT ?_
            have z : compOk k (.list ds) = false := by
              show ((decide (1 ≤ ds.length) && decide (ds.length ≤ 40)) && rowsOk k 0 ds) = _
              rw [decide_eq_false (by omega : ¬ ds.length ≤ 40), Bool.and_false, Bool.false_and]
            have q' := q _ (Same.refl _)
            rw [z] at q'
            exact q'
        · rw [decide_eq_false c1]
          refine iteF ⟨_, rfl, iteT ?_⟩
          have z : compOk k (.list ds) = false := by
            show ((decide (1 ≤ ds.length) && decide (ds.length ≤ 40)) && rowsOk k 0 ds) = _
            rw [decide_eq_false (by omega : ¬ 1 ≤ ds.length), Bool.false_and, Bool.false_and]
          have q' := q _ (Same.refl _)
          rw [z] at q'
          exact q'
    · have z : isList d = false ∧ compOk k d = false := by
        cases d with
        | list ds => exact (e ⟨ds, rfl⟩).elim
        | _ => exact ⟨rfl, rfl⟩
      rw [z.1]
      refine iteT ?_
      have q' := q _ (Same.refl _)
      rw [z.2] at q'
      exact q'
end
end K2

namespace K2
open PySem PySem.Spec PyProof.Rows L2 GL
/-! ### tables of numbers -/
/-- at c a list of the lists at rs, which hold the numbers kss -/
structure Tab (H : Hp) (c : Addr) (rs : List Addr) (kss : List (List Int)) : Prop where
  top : H c = some (.lst (rs.map V.ref))
  len : rs.length = kss.length
  row : ∀ (i : Nat) (r : Addr) (ks : List Int), rs[i]? = some r → kss[i]? = some ks → H r = some (.lst (ks.map V.int))
  nd : rs.Nodup
/-- the numbers of a company -/
def Fine (k : Int) (kss : List (List Int)) : Prop := ∀ (i : Nat) (ks : List Int), kss[i]? = some ks → ks.length = i ∧ ∀ z ∈ ks, 0 ≤ z ∧ z < k
theorem Tab.same {H H' : Hp} {c : Addr} {rs : List Addr} {kss : List (List Int)} (t : Tab H c rs kss) (s : Same H H') : Tab H' c rs kss := ⟨s _ _ t.top, t.len, fun i r ks a b => s _ _ (t.row i r ks a b), t.nd⟩
theorem Tab.at {H : Hp} {c : Addr} {rs : List Addr} {kss : List (List Int)} (t : Tab H c rs kss) {i : Nat} (hi : i < kss.length) : ∃ r ks, rs[i]? = some r ∧ kss[i]? = some ks ∧ H r = some (.lst (ks.map V.int)) := by
  have h2 : i < rs.length := by rw [t.len]; exact hi
  exact ⟨rs[i], kss[i], List.getElem?_eq_getElem h2, List.getElem?_eq_getElem hi, t.row i _ _ (List.getElem?_eq_getElem h2) (List.getElem?_eq_getElem hi)⟩
def exprOf : Stmt → Expr
  | .Return (some e) _ => e
  | .Assign _ e _ => e
  | _ => .Name "" ⟨0, 0, 0, 0⟩
def stmtIn (l : List Stmt) (i : Nat) : Stmt := l.getD i (.Pass ⟨0, 0, 0, 0⟩)
def compScope : Expr → Scope
  | .ListComp _ _ sc _ => sc
  | _ => { kind := .function, names := [], isGenerator := false, isCoroutine := false }
theorem cut_to {xs : List V} {i : Nat} (h : i ≤ xs.length) : cutV xs none (some (i : Int)) = xs.take i := by
  unfold cutV
  rw [HT.sIx_none, HT.sIx_nat, Nat.min_eq_left h]
  rfl
theorem Tab.push {H H4 : Hp} {c p : Addr} {rs : List Addr} {kss : List (List Int)} {ks : List Int} (t : Tab H c rs kss) (nc : c ∉ rs) (s : ∀ r ∈ rs, ∀ o, H r = some o → H4 r = some o) (hp : H p = none) (h4 : H4 p = some (.lst (ks.map V.int))) :
    Tab (upd H4 c (.lst (rs.map V.ref ++ [V.ref p]))) c (rs ++ [p]) (kss ++ [ks]) ∧ c ∉ rs ++ [p] := by
  have pc : c ≠ p := ne_of_none t.top hp
  have held : ∀ r ∈ rs, ∃ o, H r = some o := fun r hr => by
    obtain ⟨i, hi⟩ := List.getElem?_of_mem hr
    have h2 : i < kss.length := by rw [← t.len]; exact (List.getElem?_eq_some_iff.mp hi).1
    exact ⟨_, t.row i r _ hi (List.getElem?_eq_getElem h2)⟩
  have np : p ∉ rs := fun hr => by
    obtain ⟨o, e⟩ := held p hr
    rw [hp] at e
    cases e
  refine ⟨⟨?_, ?_, ?_, ?_⟩, ?_⟩
  · rw [upd_same, List.map_append]
    rfl
  · rw [List.length_append, List.length_append, t.len]
    rfl
  · intro i r ks' h1 h2
    by_cases hi : i < rs.length
    · rw [List.getElem?_append_left hi] at h1
      rw [List.getElem?_append_left (by rw [← t.len]; exact hi)] at h2
      have e := t.row i r ks' h1 h2
      have rc : r ≠ c := fun z => nc (by rw [← z]; exact List.mem_of_getElem? h1)
      rw [upd_ne rc]
      exact s r (List.mem_of_getElem? h1) _ e
    · rw [List.getElem?_append_right (by omega)] at h1
      rw [List.getElem?_append_right (by rw [← t.len]; omega)] at h2
      have i0 : i - rs.length = 0 := by
        have := (List.getElem?_eq_some_iff.mp h1).1
        simp at this
        omega
      rw [i0] at h1
      rw [← t.len, i0] at h2
      cases h1
      cases h2
      rw [upd_ne pc.symm]
      exact h4
  · rw [List.nodup_append]
    refine ⟨t.nd, by simp, fun a ha b hb => ?_⟩
    rw [List.mem_singleton] at hb
    subst hb
    exact fun z => np (by rw [← z]; exact ha)
  · rw [List.mem_append, List.mem_singleton]
    rintro (z | z)
    · exact nc z
    · exact pc z
theorem Fine.nil {k : Int} : Fine k [] := fun i ks h => by simp at h
theorem Fine.push {k : Int} {kss : List (List Int)} {ks : List Int} (f : Fine k kss) (l : ks.length = kss.length) (b : ∀ z ∈ ks, 0 ≤ z ∧ z < k) : Fine k (kss ++ [ks]) := by
  intro i ks' h
  by_cases hi : i < kss.length
  · rw [List.getElem?_append_left hi] at h
    exact f i ks' h
  · rw [List.getElem?_append_right (by omega)] at h
    have i0 : i - kss.length = 0 := by
      have := (List.getElem?_eq_some_iff.mp h).1
      simp at this
      omega
    rw [i0] at h
    cases h
    exact ⟨by omega, b⟩
theorem Tab.but {H H' : Hp} {c g : Addr} {rs : List Addr} {kss : List (List Int)} (t : Tab H c rs kss) (b : But g H H') (h1 : c ≠ g) (h2 : g ∉ rs) : Tab H' c rs kss :=
  ⟨b _ _ t.top h1, t.len, fun i r ks x y => b _ _ (t.row i r ks x y) fun z => h2 (by rw [← z]; exact List.mem_of_getElem? x), t.nd⟩
def natV (os : List Nat) : List V := os.map fun (j : Nat) => V.int (j : Int)
theorem seq_in {r : Int} {n : Nat} (h0 : 0 ≤ r) (h1 : r < n) : seqIndex? r n = some r.toNat := by
  unfold seqIndex?
  rw [if_neg (by omega : ¬ r < 0), if_pos (by simp [h0, h1])]
theorem rg_nat (n : Nat) : rgV 0 (n : Int) = natV (List.range n) := by
  unfold rgV natV
  rw [show ((n : Int) - 0).toNat = n by omega]
  exact List.map_congr_left fun j _ => by rw [Int.zero_add]
theorem erase_map : ∀ {os : List Nat} (k : Nat), (natV os).eraseIdx k = natV (os.eraseIdx k)
  | [], k => by cases k <;> rfl
  | a :: os, 0 => rfl
  | a :: os, k + 1 => congrArg (V.int (a : Int) :: ·) (erase_map (os := os) k)
theorem perm_erase : ∀ {l : List Nat} {k : Nat} {y : Nat}, l[k]? = some y → (y :: l.eraseIdx k).Perm l
  | [], k, y, h => by simp at h
  | a :: l, 0, y, h => by
    cases h
    exact .refl _
  | a :: l, k + 1, y, h => (List.Perm.swap a y (l.eraseIdx k)).trans (List.Perm.cons a (perm_erase (l := l) (k := k) h))
def ifBody : Stmt → List Stmt
  | .If _ b _ _ => b
  | _ => []
def forBody : Stmt → List Stmt
  | .For _ _ b _ _ => b
  | _ => []
theorem rep_one (n : Nat) (k : Int) : (List.replicate n [V.int k]).flatten = (List.replicate n k).map V.int := by
  induction n with
  | zero => rfl
  | succ n ih =>
    rw [List.replicate_succ, List.replicate_succ, List.flatten_cons, ih]
    rfl
theorem notin_new {H : Hp} {g : Addr} {n : Nat} {rs : List Addr} (G : Gen H g n) (nR : ∀ r ∈ rs, H r = none) : g ∉ rs := fun z => by
  obtain ⟨a, b, c, h1, _⟩ := G
  have := nR g z
  rw [h1] at this
  cases this
theorem but_free {H H' : Hp} {g p : Addr} {n' : Nat} (b : But g H H') (G' : Gen H' g n') (hp : H' p = none) : H p = none := by
  have pg : p ≠ g := (G'.ne hp).symm
  cases q : H p with
  | none => rfl
  | some o =>
    rw [b p o q pg] at hp
    cases hp
theorem Gen.same {H H' : Hp} {g : Addr} {n : Nat} (h : Gen H g n) (s : Same H H') : Gen H' g n := by
  obtain ⟨a, b, c, h1, r⟩ := h
  exact ⟨a, b, c, s _ _ h1, r⟩
theorem cut_one (xs : List V) : cutV xs (some 1) none = xs.drop 1 := by
  unfold cutV
  rw [HT.sIx_none, show HT.sIx xs.length 0 (some 1) = min 1 xs.length from HT.sIx_nat xs.length 0 1]
  cases xs with
  | nil => rfl
  | cons x xs =>
    have e : min 1 (x :: xs).length = 1 := by
      rw [List.length_cons]
      omega
    rw [e]
    exact List.take_of_length_le (by rw [List.length_drop]; omega)
theorem gen (H : Hp) {p : Addr} (h : H p = none) (o : HO) : ∃ H', upd H p o = H' ∧ Same H H' ∧ H' p = some o := ⟨_, rfl, same_new h, upd_same⟩
theorem one_le : 1 ≤ sizeLine := by decide
abbrev sCheckC : Stmt := topS 21
abbrev sTie : Stmt := topS 44
/-- the tie of two people -/
def tieN (kss : List (List Int)) (i j : Nat) : Int := (kss.getD (max i j) []).getD (min i j) 0
theorem tieN_comm (kss : List (List Int)) (i j : Nat) : tieN kss i j = tieN kss j i := by
  unfold tieN
  rw [Nat.max_comm, Nat.min_comm]
theorem tieN_in {k : Int} {kss : List (List Int)} (f : Fine k kss) {i j : Nat} (hi : i < kss.length) (hj : j < kss.length) (ne : i ≠ j) : 0 ≤ tieN kss i j ∧ tieN kss i j < k := by
  have hm : max i j < kss.length := by omega
  have e : kss.getD (max i j) [] = kss[max i j] := by rw [List.getD_eq_getElem?_getD, List.getElem?_eq_getElem hm]; rfl
  obtain ⟨a, b⟩ := f _ _ (List.getElem?_eq_getElem hm)
  have hl : min i j < kss[max i j].length := by omega
  unfold tieN
  rw [e, List.getD_eq_getElem?_getD, List.getElem?_eq_getElem hl]
  exact b _ (List.getElem_mem hl)
section
variable {P : Program} {w : World} {K : PySem.W.Frag} {mg : Str → Option Value} {base : Heap}
theorem scCheck : FnScope ["kinds"] ["kinds"] (defScope sCheck) := ⟨rfl, rfl, rfl, by decide +kernel, rfl, by decide +kernel, by decide +kernel⟩
def spCheck : Sp := fun vs H Q _ => ∃ k : Int, vs = [.int k] ∧ 2 ≤ k ∧ k ≤ 9 ∧ Q .non H
theorem ok_check {f : Addr} {fd : FuncData} (F : Fun K "check_kinds" "check_kinds" sCheck f fd) (U : Use P w K mg base "are_kinds" ["value"] (spKinds K) 2) : FnOk P w K mg base CX0 3 f fd ["kinds"] spCheck := by
  refine F.ok scCheck (fun vs H Q E h => ?_) (fun cdv A outer s H vs Q E hr h => ?_)
  · obtain ⟨k, rfl, _⟩ := h
    rfl
  · obtain ⟨k, rfl, h2, h9, q⟩ := h
    refine ⟨_, pss_one (ps_if (pt_not (pt_val (pe_use U hr (by rfl) (pa_cons (pv 0) pa_nil)))) (pss_one ps_never) pss_nil), ?_⟩
    exact ⟨_, rfl, k, rfl, h2, h9, _, rfl, iteF q⟩

theorem scCheckC : FnScope ["kinds", "company"] ["kinds", "company"] (defScope sCheckC) := ⟨rfl, rfl, rfl, by decide +kernel, rfl, by decide +kernel, by decide +kernel⟩
def spCheckC (K : PySem.W.Frag) : Sp := fun vs H Q _ => ∃ (k : Int) (x : V) (d : PyData), vs = [.int k, x] ∧ 2 ≤ k ∧ k ≤ 9 ∧ Dt K H x d ∧ compOk k d = true ∧ ∀ H', Same H H' → Q .non H'
theorem ok_checkC {f : Addr} {fd : FuncData} (F : Fun K "check_company" "check_company" sCheckC f fd) (U : Use P w K mg base "check_kinds" ["kinds"] spCheck 3) (V : Use P w K mg base "is_company_of" ["kinds", "value"] (spCompOf K) 4) : FnOk P w K mg base CX0 5 f fd ["kinds", "company"] (spCheckC K) := by
  refine F.ok scCheckC (fun vs H Q E h => ?_) (fun cdv A outer s H vs Q E hr h => ?_)
  · obtain ⟨k, x, d, rfl, _⟩ := h
    rfl
  · obtain ⟨k, x, d, rfl, h2, h9, hd, ok, q⟩ := h
    refine ⟨_, pss_cons (ps_expr (pe_use U (hr.mono (by decide)) (by rfl) (pa_cons (pv 0) pa_nil))) (pss_one (ps_if (pt_not (pt_val (pe_use V hr (by rfl) (pa_cons (pv 0) (pa_cons (pv 1) pa_nil))))) (pss_one ps_never) pss_nil)), ?_⟩
    refine ⟨_, rfl, k, rfl, h2, h9, _, rfl, _, rfl, x, d, k, rfl, hd, fun H' s' => ⟨_, rfl, ?_⟩⟩
    rw [ok]
    exact iteF (q _ s')
theorem scTie : FnScope ["_law_company_here", "_law_one", "_law_other"] ["_law_company_here", "_law_one", "_law_other"] (defScope sTie) := ⟨rfl, rfl, rfl, by decide +kernel, rfl, by decide +kernel, by decide +kernel⟩
def spTie : Sp := fun vs H Q _ => ∃ (c : Addr) (rs : List Addr) (kss : List (List Int)) (k : Int) (one other : Nat), vs = [.ref c, .int one, .int other] ∧ Tab H c rs kss ∧ Fine k kss ∧ one < kss.length ∧ other < kss.length ∧ one ≠ other ∧ Q (.int (tieN kss one other)) H
theorem ok_tie {f : Addr} {fd : FuncData} (F : Fun K "_law_tie" "_law_tie" sTie f fd) (T : Bi mg) : FnOk P w K mg base CX0 1 f fd ["_law_company_here", "_law_one", "_law_other"] spTie := by
  refine F.ok scTie (fun vs H Q E h => ?_) (fun cdv A outer s H vs Q E hr h => ?_)
  · obtain ⟨c, rs, kss, k, i, j, rfl, _⟩ := h
    rfl
  · obtain ⟨c, rs, kss, k, i, j, rfl, t, fine, hi, hj, ne, q⟩ := h
    refine ⟨_, pss_one (ps_ret (pe_ix ix_list (pe_ix ix_list (pv 0) (pe_callB (call_max2 rfl) (by rfl) T.max (by decide +kernel) (pa_cons (pv 1) (pa_cons (pv 2) pa_nil))) (fun _ _ => rfl)) (pe_callB (call_min2 rfl) (by rfl) T.min (by decide +kernel) (pa_cons (pv 1) (pa_cons (pv 2) pa_nil))) (fun _ _ => rfl))), ?_⟩
    have e1 : (if (j : Int) > (i : Int) then (j : Int) else (i : Int)) = ((max i j : Nat) : Int) := by
      by_cases c : i < j
      · rw [if_pos (by omega), Nat.max_eq_right (by omega)]
      · rw [if_neg (by omega), Nat.max_eq_left (by omega)]
    have e2 : (if (j : Int) < (i : Int) then (j : Int) else (i : Int)) = ((min i j : Nat) : Int) := by
      by_cases c : i < j
      · rw [if_neg (by omega), Nat.min_eq_left (by omega)]
      · by_cases c2 : j < i
        · rw [if_pos (by omega), Nat.min_eq_right (by omega)]
        · omega
    have hm : max i j < kss.length := by omega
    obtain ⟨r, ks, a1, a2, a3⟩ := t.at hm
    obtain ⟨b1, _⟩ := fine _ _ a2
    have hlo : min i j < ks.length := by omega
    have ez : tieN kss i j = ks[min i j] := by
      have eA : kss.getD (max i j) [] = ks := by rw [List.getD_eq_getElem?_getD, a2]; rfl
      unfold tieN
      rw [eA, List.getD_eq_getElem?_getD, List.getElem?_eq_getElem hlo]
      rfl
    rw [ez] at q
    exact ⟨_, rfl, _, rfl, _, rfl, _, _, rfl, c, _, _, _, rfl, rfl, SqL.of t.top, at_of (j := max i j) (v := V.ref r) e1 (by rw [List.getElem?_map, a1]; rfl), _, rfl, _, rfl, _, _, rfl, r, _, _, _, rfl, rfl, SqL.of a3, at_of (j := min i j) (v := V.int ks[min i j]) e2 (by rw [List.getElem?_map, List.getElem?_eq_getElem hlo]; rfl), q⟩
end
end K2

namespace K2
open PySem PySem.Spec PyProof.Rows L2 GL
abbrev sLot : Stmt := topS 18
abbrev sCheckL : Stmt := topS 24
abbrev sTies : Stmt := topS 26
/-- a lot of so many people -/
structure Lot (n : Nat) (l : List Nat) : Prop where
  some : l ≠ []
  up : l.Pairwise (· < ·)
  low : ∀ p ∈ l, p < n
theorem up_len {n : Nat} : ∀ (l : List Nat) (m : Nat), l.Pairwise (· < ·) → (∀ p ∈ l, m ≤ p ∧ p < n) → l.length ≤ n - m
  | [], _, _, _ => Nat.zero_le _
  | a :: t, m, h, b => by
    obtain ⟨h1, h2⟩ := List.pairwise_cons.mp h
    have ba := b a (List.mem_cons_self ..)
    have ih := up_len t (a + 1) h2 fun p hp => ⟨h1 p hp, (b p (List.mem_cons_of_mem _ hp)).2⟩
    rw [List.length_cons]
    omega
theorem Lot.len {n : Nat} {l : List Nat} (h : Lot n l) : 1 ≤ l.length ∧ l.length ≤ n := by
  have := up_len l 0 h.up fun p hp => ⟨Nat.zero_le _, h.low p hp⟩
  have := List.length_pos_iff.mpr h.some
  omega
theorem trues_more (i : Nat) : (List.replicate (i + 1) true).map V.bl = (List.replicate i true).map V.bl ++ [V.bl true] := by
  rw [List.replicate_succ', List.map_append]
  rfl
theorem trues_all (n : Nat) : (List.replicate n true).all id = true := by
  induction n with
  | zero => rfl
  | succ n ih =>
    rw [List.replicate_succ, List.all_cons, ih]
    rfl
section
variable {P : Program} {w : World} {K : PySem.W.Frag} {mg : Str → Option Value} {base : Heap}
theorem scLot : FnScope ["many", "value", "person", "later"] ["many", "value"] (defScope sLot) := ⟨rfl, rfl, rfl, by decide +kernel, rfl, by decide +kernel, by decide +kernel⟩
def spLot (K : PySem.W.Frag) : Sp := fun vs H Q _ => ∃ (n : Nat) (o : Addr) (l : List Nat), vs = [.int n, .ref o] ∧ n ≤ 100 ∧ H o = some (.lst (natV l)) ∧ Lot n l ∧ ∀ H', Same H H' → Q (.bl true) H'
theorem ok_lot {f : Addr} {fd : FuncData} (F : Fun K "is_lot" "is_lot" sLot f fd) (T : Bi mg) (U : Use P w K mg base "is_below" ["value", "bound"] (spBelow K) 2) : FnOk P w K mg base CX0 3 f fd ["many", "value"] (spLot K) := by
  refine F.ok scLot (fun vs H Q E h => ?_) (fun cdv A outer s H vs Q E hr h => ?_)
  · obtain ⟨n, o, l, rfl, _⟩ := h
    rfl
  · obtain ⟨n, o, l, rfl, n100, ho, lot, q⟩ := h
    refine ⟨_, pss_cons (ps_if (PW.pt (pw_or (pt_not (pt_val (pe_callB call_isi (by rfl) T.isinstance (by decide +kernel) (pa_cons (pv 1) (pa_cons (pe_bltn (v := .ty "list") (by rfl) T.list PyProof.Rows.boot_list rfl) pa_nil)))))
        (pw_or1 (pt_not (pt_chain op_le op_le pe_int (pe_callB call_len_seq (by rfl) T.len PySem.boot_len (pa_cons (pv 1) pa_nil)) (pv 0)))))) (pss_one (ps_ret pe_bl)) pss_nil)
      (pss_cons (ps_if (pt_not (pt_val (pe_callB (cr_all rfl) (by rfl) T.all (by decide +kernel) (pa_cons (pe_lc (own := [("person", 2)]) (g := gName 2) (tt := tYes) rfl scLot.nd (pi_list (pv 1)) (blkOk_by (N := ["many", "value", "person", "later"]) (sc := defScope sLot) (by decide +kernel))
        (fun _ _ _ _ _ => pg_name (i := 2) scLot.nd rfl (Or.inl rfl)) (fun _ _ _ _ _ => pts_nil) (fun _ _ _ _ _ => pe_use U hr (by rfl) (pa_cons (pv 2) (pa_cons (pv 0) pa_nil)))) pa_nil)))) (pss_one (ps_ret pe_bl)) pss_nil)
      (pss_one (ps_ret (pe_callB (cr_all rfl) (by rfl) T.all (by decide +kernel) (pa_cons (pe_lc (own := [("person", 2), ("later", 3)]) (g := gTup K 2 (gCons (gName 2) (gCons (gName 3) gNil))) (tt := tYes) rfl scLot.nd
        (pi_zip (by rfl) T.zip (pa_cons (pv 1) (pa_cons (pe_slice sl_list (pv 1) (po_some pe_int) po_none) pa_nil))) (blkOk_by (N := ["many", "value", "person", "later"]) (sc := defScope sLot) (by decide +kernel))
        (fun _ _ _ _ _ => pg_tup rfl (pgs_cons (pg_name (i := 2) scLot.nd rfl (Or.inl rfl)) (pgs_cons (pg_name (i := 3) scLot.nd rfl (Or.inl rfl)) pgs_nil))) (fun _ _ _ _ _ => pts_nil) (fun _ _ _ _ _ => pe_cmpR op_lt (pv 2) (pv 3) (nomark _))) pa_nil))))), ?_⟩
    obtain ⟨l1, l2⟩ := lot.len
    have ll : (natV l).length = l.length := List.length_map _
    refine ⟨_, rfl, _, _, _, _, _, rfl, .ty "list", .base (.lst ho), kit_list (.list []), _, rfl, iteF ⟨_, rfl, o, _, rfl, .inl (SqL.of ho), _, _, rfl, rfl, _, rfl, ?_⟩⟩
    rw [decide_eq_true (by omega : (1 : Int) ≤ ((natV l).length : Int))]
    refine iteT ⟨_, rfl, _, _, rfl, rfl, _, rfl, ?_⟩
    rw [decide_eq_true (by omega : ((natV l).length : Int) ≤ (n : Int))]
    refine iteF ⟨_, rfl, o, rfl, ⟨_, SqL.of ho⟩, fun D hD => ?_⟩
    refine lc_list (K := K) (a := o) (xs := natV l) (fun i H' => Same H H' ∧ H' D = some (.lst ((List.replicate i true).map V.bl))) ⟨same_new hD, upd_same⟩ (fun i H' _ z => SqL.of (z.1 _ _ ho)) ?_ ?_
    · rintro i y H' hi ⟨s1, h1⟩
      unfold natV at hi
      rw [List.getElem?_map] at hi
      cases e : l[i]? with
      | none =>
        rw [e] at hi
        cases hi
      | some p =>
        rw [e] at hi
        cases hi
        have pl := lot.low p (List.mem_of_getElem? e)
        have il := (List.getElem?_eq_some_iff.mp e).1
        refine ⟨rfl, yes_of ⟨_, rfl, _, rfl, _, .int (p : Nat), n, rfl, .int _, ?_⟩⟩
        have z : below n (.int (p : Nat)) = true := by
          show (decide ((0 : Int) ≤ (p : Nat)) && decide (((p : Nat) : Int) < n)) = true
          rw [decide_eq_true (by omega : (0 : Int) ≤ (p : Nat)), decide_eq_true (by omega : ((p : Nat) : Int) < n)]
          rfl
        rw [z]
        refine ⟨_, h1, ?_, fun b o' e' => ?_, ?_⟩
        · rw [List.length_map, List.length_replicate]
          exact small1000 (by omega)
        · rw [upd_ne (ne_of_none e' hD)]
          exact s1 b o' e'
        · rw [upd_same, trues_more]
    · rintro H' ⟨s1, h1⟩
      refine ⟨D, _, rfl, SqL.of h1, _, rfl, ?_⟩
      rw [trues_all]
      refine iteF ⟨_, rfl, _, rfl, 1, rfl, o, _, rfl, SqL.of (s1 _ _ ho), fun c nc => ?_⟩
      rw [cut_one]
      obtain ⟨H2, e2, s2, f2⟩ := gen H' nc (.lst ((natV l).drop 1))
      rw [e2]
      clear e2
      have s12 := s1.trans s2
      refine ⟨o, c, _, _, rfl, SqL.of (s12 _ _ ho), SqL.of f2, fun D2 hD2 => ?_⟩
      have mn : min (natV l).length ((natV l).drop 1).length = l.length - 1 := by
        rw [List.length_drop, ll]
        omega
      refine lc_it (walk_zip (K := K) (a := o) (b := c) (xs := natV l) (ys := (natV l).drop 1) (n := l.length - 1) mn.symm) (fun i H' => Same H2 H' ∧ H' D2 = some (.lst ((List.replicate i true).map V.bl))) ⟨same_new hD2, upd_same⟩ (fun i H' _ z => ⟨SqL.of (z.1 _ _ (s12 _ _ ho)), SqL.of (z.1 _ _ f2)⟩) ?_ ?_
      · rintro i y H3 H4 hi ⟨s3, h3⟩ ⟨A2, x1, x2, rfl, nA, rfl, e1, e2⟩
        have i1 : i < l.length := by omega
        have i2 : i + 1 < l.length := by omega
        have e1' : (natV l)[i]? = some x1 := e1
        have e2' : ((natV l).drop 1)[i]? = some x2 := e2
        unfold natV at e1' e2'
        rw [List.getElem?_map, List.getElem?_eq_getElem i1] at e1'
        rw [List.getElem?_drop, Nat.add_comm 1 i, List.getElem?_map, List.getElem?_eq_getElem i2] at e2'
        cases e1'
        cases e2'
        have lt : l[i] < l[i + 1] := List.pairwise_iff_getElem.mp lot.up i (i + 1) i1 i2 (by omega)
        refine ⟨A2, _, rfl, SqT.of upd_same, rfl, _, _, rfl, _, _, rfl, rfl, rfl, yes_of ?_⟩
        refine ⟨_, rfl, _, rfl, _, _, rfl, rfl, (List.replicate i true).map V.bl, ?_, ?_, ?_⟩
        · rw [upd_ne (ne_of_none h3 nA)]
          exact h3
        · rw [List.length_map, List.length_replicate]
          exact small1000 (by omega)
        · refine ⟨fun b o' e' => ?_, ?_⟩
          · rw [upd_ne (ne_of_none e' hD2)]
            exact (same_new nA) b o' (s3 b o' e')
          · have z : decide (((l[i] : Nat) : Int) < ((l[i + 1] : Nat) : Int)) = true := decide_eq_true (by omega)
            rw [upd_same, trues_more, ← z]
      · rintro H3 ⟨s3, h3⟩
        refine ⟨D2, _, rfl, SqL.of h3, ?_⟩
        rw [trues_all]
        exact q _ (s12.trans s3)
theorem scCheckL : FnScope ["company", "lot"] ["company", "lot"] (defScope sCheckL) := ⟨rfl, rfl, rfl, by decide +kernel, rfl, by decide +kernel, by decide +kernel⟩
def spCheckL : Sp := fun vs H Q _ => ∃ (c o : Addr) (xs : List V) (l : List Nat), vs = [.ref c, .ref o] ∧ H c = some (.lst xs) ∧ xs.length ≤ 100 ∧ H o = some (.lst (natV l)) ∧ Lot xs.length l ∧ ∀ H', Same H H' → Q .non H'
theorem ok_checkL {f : Addr} {fd : FuncData} (F : Fun K "check_lot" "check_lot" sCheckL f fd) (T : Bi mg) (U : Use P w K mg base "is_lot" ["many", "value"] (spLot K) 3) : FnOk P w K mg base CX0 4 f fd ["company", "lot"] spCheckL := by
  refine F.ok scCheckL (fun vs H Q E h => ?_) (fun cdv A outer s H vs Q E hr h => ?_)
  · obtain ⟨c, o, xs, l, rfl, _⟩ := h
    rfl
  · obtain ⟨c, o, xs, l, rfl, hc, lx, ho, lot, q⟩ := h
    refine ⟨_, pss_one (ps_if (pt_not (pt_val (pe_use U hr (by rfl) (pa_cons (pe_callB call_len_seq (by rfl) T.len PySem.boot_len (pa_cons (pv 0) pa_nil)) (pa_cons (pv 1) pa_nil))))) (pss_one ps_never) pss_nil), ?_⟩
    exact ⟨_, rfl, c, _, rfl, .inl (SqL.of hc), _, rfl, xs.length, o, l, rfl, lx, ho, lot, fun H' s' => ⟨_, rfl, iteF (q _ s')⟩⟩
end
end K2

/-! Data whose repr is known to fit: leaves, and lists and tuples of at most fifty things, three deep. -/
namespace GL
open PySem PySem.Spec PyProof.Rows L2
def Leaf : PyData → Prop
  | .none => True
  | .bool _ => True
  | .int i => i.natAbs < 2 ^ 100
  | .str x => (reprText x).length ≤ 110
  | .dict kvs => kvs = []
  | _ => False
def Nice : Nat → PyData → Prop
  | 0, d => Leaf d
  | n + 1, d => Leaf d ∨ ∃ ds, (d = .list ds ∨ d = .tuple ds) ∧ ds.length ≤ 50 ∧ ∀ e ∈ ds, Nice n e
theorem Nice.leaf {n : Nat} {d : PyData} (h : Leaf d) : Nice n d := by
  cases n with
  | zero => exact h
  | succ n => exact .inl h
theorem Nice.up {n : Nat} {d : PyData} (h : Nice n d) : Nice (n + 1) d := by
  induction n generalizing d with
  | zero => exact .inl h
  | succ n ih =>
    rcases h with h | ⟨ds, e, l, a⟩
    · exact .inl h
    · exact .inr ⟨ds, e, l, fun x hx => ih (a x hx)⟩
theorem Nice.list {n : Nat} {ds : List PyData} (l : ds.length ≤ 50) (a : ∀ e ∈ ds, Nice n e) : Nice (n + 1) (.list ds) := .inr ⟨ds, .inl rfl, l, a⟩
theorem Nice.tuple {n : Nat} {ds : List PyData} (l : ds.length ≤ 50) (a : ∀ e ∈ ds, Nice n e) : Nice (n + 1) (.tuple ds) := .inr ⟨ds, .inr rfl, l, a⟩
theorem textFrom_le : ∀ (ts : List Str) (k : Nat) (acc : Str), (textFrom k acc ts).length ≤ acc.length + piled ts
  | [], k, acc => Nat.le_refl _
  | t :: r, k, acc => by
    have ih := textFrom_le r (k + 1) (acc ++ (if k > 0 then ", " else "" : String) ++ t)
    rw [strLen_append, strLen_append] at ih
    rw [piled_cons]
    show (textFrom (k + 1) (acc ++ (if k > 0 then ", " else "" : String) ++ t) r).length ≤ _
    have e : (Str.ofString (if k > 0 then ", " else "" : String)).length ≤ 2 := by
      by_cases h : k > 0
      · rw [if_pos h]
        exact Nat.le_of_eq rfl
      · rw [if_neg h]
        exact Nat.zero_le _
    omega
theorem listText_le (ts : List Str) : (listText ts).length ≤ 2 + piled ts := by
  unfold listText
  rw [strLen_append]
  have := textFrom_le ts 0 "["
  have e1 : (Str.ofString "[").length = 1 := rfl
  have e2 : (Str.ofString "]").length = 1 := rfl
  omega
theorem tupleText_le (ts : List Str) : (tupleText ts).length ≤ 3 + piled ts := by
  unfold tupleText
  rw [strLen_append, strLen_append]
  have e1 : (Str.ofString "(").length = 1 := rfl
  have e2 : (Str.ofString (if ts.length == 1 then ",)" else ")" : String)).length ≤ 2 := by
    by_cases h : (ts.length == 1) = true
    · rw [if_pos h]
      exact Nat.le_of_eq rfl
    · rw [if_neg h]
      exact Nat.le_succ _
  cases ts with
  | nil =>
    have e3 : (Str.join ", " ([] : List Str)).length = 0 := rfl
    omega
  | cons t r =>
    have := join_length_add (t :: r) (by simp)
    omega
theorem piled_le {B : Nat} : ∀ {ds : List PyData}, (∀ e ∈ ds, e.shown.length ≤ B) → piled (PyData.shownAll ds) ≤ ds.length * (B + 2)
  | [], _ => Nat.zero_le _
  | d :: ds, h => by
    have ih := piled_le (ds := ds) (B := B) fun e he => h e (List.mem_cons_of_mem _ he)
    have h0 := h d (List.mem_cons_self ..)
    simp only [PyData.shownAll]
    rw [piled_cons, List.length_cons, Nat.add_mul]
    omega
def Bound : Nat → Nat
  | 0 => 110
  | n + 1 => 3 + 50 * (Bound n + 2)
theorem Bound.up (n : Nat) : 110 ≤ Bound n := by
  induction n with
  | zero => exact Nat.le_refl _
  | succ n ih =>
    show 110 ≤ 3 + 50 * (Bound n + 2)
    omega
theorem log_of {i : Int} (h : i.natAbs < 2 ^ 100) : i.natAbs.log2 < 100 := PySem.Flt.log2_lt_of (by decide) h
theorem Leaf.shown {d : PyData} (h : Leaf d) : d.shown.length ≤ 110 ∧ d.showable = true ∧ d.depth ≤ 1 := by
  cases d with
  | none => exact ⟨by simp only [PyData.shown]; decide, by simp only [PyData.showable], by simp only [PyData.depth]; omega⟩
  | bool b => exact ⟨by simp only [PyData.shown]; cases b <;> decide, by simp only [PyData.showable], by simp only [PyData.depth]; omega⟩
  | int i =>
    have l := log_of h
    refine ⟨?_, by simp only [PyData.showable]; exact decide_eq_true (by omega), by simp only [PyData.depth]; omega⟩
    simp only [PyData.shown]
    have := int_text_length_le (k := 100) (by decide) l
    rw [PySem.ofString_length]
    omega
  | str x => exact ⟨by simp only [PyData.shown]; exact h, by simp only [PyData.showable], by simp only [PyData.depth]; omega⟩
  | dict kvs =>
    have e : kvs = [] := h
    subst e
    exact ⟨by simp only [PyData.shown, PyData.shownKv]; decide, by simp only [PyData.showable, PyData.showableKv], by simp only [PyData.depth, PyData.depthKv]; omega⟩
  | list ds => exact h.elim
  | tuple ds => exact h.elim
theorem showableAll_of : ∀ {ds : List PyData}, (∀ e ∈ ds, e.showable = true) → PyData.showableAll ds = true
  | [], _ => by simp only [PyData.showableAll]
  | d :: ds, h => by
    simp only [PyData.showableAll]
    rw [h d (List.mem_cons_self ..), showableAll_of fun e he => h e (List.mem_cons_of_mem _ he)]
    rfl
theorem depthAll_of {n : Nat} : ∀ {ds : List PyData}, (∀ e ∈ ds, e.depth ≤ n) → PyData.depthAll ds ≤ n
  | [], _ => by simp only [PyData.depthAll]; omega
  | d :: ds, h => by
    simp only [PyData.depthAll]
    have h0 := h d (List.mem_cons_self ..)
    have ih := depthAll_of (n := n) fun e he => h e (List.mem_cons_of_mem _ he)
    omega
theorem Nice.shown : ∀ {n : Nat} {d : PyData}, Nice n d → d.shown.length ≤ Bound n ∧ d.showable = true ∧ d.depth ≤ n + 1
  | 0, d, h => by
    obtain ⟨a, b, c⟩ := Leaf.shown h
    exact ⟨a, b, by omega⟩
  | n + 1, d, h => by
    rcases h with h | ⟨ds, e, l, a⟩
    · obtain ⟨x, y, z⟩ := Leaf.shown h
      exact ⟨Nat.le_trans x (Bound.up _), y, by omega⟩
    · have m : ds.length * (Bound n + 2) ≤ 50 * (Bound n + 2) := Nat.mul_le_mul_right _ l
      have pl := piled_le (B := Bound n) fun x hx => (Nice.shown (a x hx)).1
      have sh := showableAll_of fun x hx => (Nice.shown (a x hx)).2.1
      have dp := depthAll_of (n := n + 1) fun x hx => (Nice.shown (a x hx)).2.2
      rcases e with rfl | rfl
      · refine ⟨?_, by simp only [PyData.showable]; exact sh, by simp only [PyData.depth]; omega⟩
        simp only [PyData.shown]
        have := listText_le (PyData.shownAll ds)
        show _ ≤ 3 + 50 * (Bound n + 2)
        omega
      · refine ⟨?_, by simp only [PyData.showable]; exact sh, by simp only [PyData.depth]; omega⟩
        simp only [PyData.shown]
        have := tupleText_le (PyData.shownAll ds)
        show _ ≤ 3 + 50 * (Bound n + 2)
        omega
theorem Nice.fits {d : PyData} (h : Nice 3 d) : d.showable = true ∧ d.shown.length ≤ sizeLine ∧ d.depth ≤ 60 := by
  obtain ⟨a, b, c⟩ := h.shown
  refine ⟨b, Nat.le_trans a ?_, by omega⟩
  rw [sizeLine_eq]
  decide
/-! ### what is tracked, but for one thing -/
def hid (H : Hp) (g : Addr) : Hp := fun b => if b = g then none else H b
theorem hid_ne {H : Hp} {g b : Addr} (h : b ≠ g) : hid H g b = H b := if_neg h
theorem hid_same {H : Hp} {g : Addr} : Same (hid H g) H := fun b o e => by
  by_cases h : b = g
  · unfold hid at e
    rw [if_pos h] at e
    cases e
  · rw [hid_ne h] at e
    exact e
theorem hid_none {H : Hp} {g b : Addr} {o : HO} (h : hid H g b = some o) : b ≠ g := fun z => by
  unfold hid at h
  rw [if_pos z] at h
  cases h
end GL

namespace GL
open PySem PySem.Spec PyProof.Rows L2
theorem dpAll_ints {K : PySem.W.Frag} {H : Hp} : ∀ ns : List Int, DpAll K H (ns.map V.int) (ns.map PyData.int)
  | [] => .nil
  | n :: ns => .cons (.int n) (dpAll_ints ns)
/-- a row of numbers, as data -/
def rowP (ns : List Int) : PyData := .list (ns.map PyData.int)
theorem dp_row {K : PySem.W.Frag} {H : Hp} {a : Addr} {ns : List Int} (h : SqL K H a (ns.map V.int)) : Dp K H (.ref a) (rowP ns) := .lst h (dpAll_ints ns)
def rSortedL (K : PySem.W.Frag) : List V → Hp → VK → Prop := fun vs H Q => ∃ (a : Addr) (ts : List (Addr × List Int)), vs = [.ref a] ∧ SqL K H a (ts.map fun t => V.ref t.1) ∧ (∀ t ∈ ts, SqL K H t.1 (t.2.map V.int)) ∧
  ∀ p, H p = none → Q (.ref p) (upd H p (.lst ((ts.mergeSort fun x y => decide (x.2 ≤ y.2)).map fun t => V.ref t.1)))
theorem each_refs {ts : List (Addr × List Int)} : ∀ {its : List Value}, Vals (ts.map fun t => V.ref t.1) its → PySem.W.EachIs (fun v (b : Addr × List Int) => v = Value.ref b.1) its ts := by
  induction ts with
  | nil =>
    intro its h
    cases h
    exact .nil
  | cons t ts ih =>
    intro its h
    cases h with
    | cons r h => exact .cons r (ih h)
theorem refs_each {ts : List (Addr × List Int)} : ∀ {its : List Value}, PySem.W.EachIs (fun v (b : Addr × List Int) => v = Value.ref b.1) its ts → Vals (ts.map fun t => V.ref t.1) its := by
  induction ts with
  | nil =>
    intro its h
    cases h
    exact .nil
  | cons t ts ih =>
    intro its h
    cases h with
    | cons r h => exact .cons r (ih h)
theorem each_of {R : Value → Addr × List Int → Prop} {ts : List (Addr × List Int)} : ∀ {its : List Value}, PySem.W.EachIs (fun v (b : Addr × List Int) => v = Value.ref b.1) its ts → (∀ t ∈ ts, R (.ref t.1) t) → PySem.W.EachIs R its ts := by
  induction ts with
  | nil =>
    intro its h _
    cases h
    exact .nil
  | cons t ts ih =>
    intro its h q
    cases h with
    | cons r h =>
      subst r
      exact .cons (q t (List.mem_cons_self ..)) (ih h fun t' ht => q t' (List.mem_cons_of_mem _ ht))
section
variable {X : Cx}
theorem cr_sortedL (hu : X.A.units + 64 < cLine) : CallR X (.builtin "sorted") (rSortedL X.K) := by
  intro pins s σ H vs us Q I r h
  obtain ⟨a, ts, rfl, hs, hx, q⟩ := h
  obtain ⟨its, rv, hl, hz⟩ := I.list hs
  obtain ⟨u, rfl, ru⟩ := vals1 r
  obtain rfl : u = Value.ref a := ru
  have e := each_refs rv
  refine PySem.W.sorted_data (enc := fun b : Addr × List Int => rowP b.2) (R := fun v b => v = Value.ref b.1) hl.isList e (each_of e fun t ht => Dp.reads I _ _ _ (dp_row (hx t ht)) rfl)
    (PySem.W.AllAlike.of fun b b' => ?_) (PySem.W.Sortable.others fun b => ⟨fun z => (by cases z), fun xs z => (by cases z)⟩) (by rw [← List.length_map (as := ts) (f := fun t => V.ref t.1)]; exact hz) (fun b hb => ?_) fun out ho eo => ?_
  · unfold rowP
    simp only [PySem.W.alike]
    exact PySem.W.alike_ints _ _
  · have d1 : (rowP b.2).depth ≤ 2 := by
      unfold rowP
      simp only [PyData.depth]
      have := PySem.W.depth_ints b.2
      omega
    omega
  · have eo' : (ts.mergeSort (PySem.W.dataLe false fun b => rowP b.2)) = ts.mergeSort fun x y => decide (x.2 ≤ y.2) := by
      have := PySem.W.dataLe_rows (β := Addr × List Int) fun b => b.2
      unfold rowP
      rw [this]
    rw [eo'] at eo
    obtain ⟨c, hc⟩ := sortedAll_at s.heap its out.toArray
    refine ⟨.ref (s.heap.objs.size + 1), upd H (s.heap.objs.size + 1) _, I.laid (t' := s.toks) (o := .lst ((ts.mergeSort fun x y => decide (x.2 ≤ y.2)).map fun t => V.ref t.1)) (fun b o q => sortedAll_old q) (Nat.le_succ _) ⟨?_, out, c, refs_each eo, hc⟩, rfl, q _ (I.hok.fresh (Nat.le_succ _))⟩
    rw [List.length_map, (List.mergeSort_perm ts _).length_eq, ← List.length_map (as := ts) (f := fun t => V.ref t.1)]
    exact hz
end
/-! ### how many unlike numbers -/
def alikeAll (ns : List Int) : Bool := ns.all fun z => z == ns.headD 0
def tLenSetV (K : PySem.W.Frag) (ta : TE) : TE := fun σ H Q => ta σ H fun x H1 => ∃ (l : Addr) (ns : List Int), x = .ref l ∧ SqL K H1 l (ns.map V.int) ∧ ns.length ≤ 4000 ∧ ∀ n : Nat, ((n ≤ 1) ↔ (∀ x ∈ ns, ∀ y ∈ ns, x = y)) → Q (.int n) H1
theorem dups_ne {a : Int} {l : List Int} (h : a ∈ l) : l.eraseDups ≠ [] := fun e => by
  have := (PySem.W.oss_has (l := l) (x := a)).2 h
  rw [PySem.W.oss_dups, e] at this
  cases this
theorem met_one {ns : List Int} : (firstMet (fun i => ns.getD i 0) ns.length).length ≤ 1 ↔ (∀ x ∈ ns, ∀ y ∈ ns, x = y) := by
  rw [PySem.W.oss_met, PySem.W.oss_dups]
  cases ns with
  | nil => simp
  | cons a r =>
    rw [List.eraseDups_cons, List.length_cons]
    constructor
    · intro h
      have e : (r.filter fun x => !x == a).eraseDups = [] := List.length_eq_zero_iff.mp (by omega)
      have z : ∀ x ∈ r, x = a := fun x hx => by
        by_cases c : x = a
        · exact c
        · exact (dups_ne (l := r.filter fun x => !x == a) (List.mem_filter.mpr ⟨hx, by simp [c]⟩) e).elim
      have z' : ∀ x ∈ a :: r, x = a := fun x hx => by
        rcases List.mem_cons.mp hx with hx | hx
        · exact hx
        · exact z x hx
      exact fun x hx y hy => (z' x hx).trans (z' y hy).symm
    · intro h
      have e : (r.filter fun x => !x == a) = [] := List.filter_eq_nil_iff.mpr fun x hx => by
        have := h x (List.mem_cons_of_mem _ hx) a (List.mem_cons_self ..)
        simp [this]
      rw [e]
      exact Nat.le_refl _
theorem pe_lenSetV {X : Cx} {a : Expr} {ta : TE} {p p2 q pos : Pos} (hg : Gl X "len") (hm : X.mg "len" = none) (hg2 : Gl X "set") (hm2 : X.mg "set" = none) (ha : PE X a ta) (hc : X.calm = true := by rfl)
    (na : starEach [a] X.env = (false, eval a X.env) :: starEach [] X.env := by rfl) : PE X (.Call (.Name "len" p) [.Call (.Name "set" p2) [a] [] q] [] pos) (tLenSetV X.K ta) := by
  refine ⟨fun pins s σ H Q I h => ?_⟩
  refine Call_ (ld_blt I hg hm boot_len ?_)
  refine PyProof.Rows.callWith_builtin1 (PyProof.Rows.args_cons ?_ rfl) rfl rfl
  refine Call_ (ld_blt I hg2 hm2 (show bootBuiltins "set" = some (.type "set") by decide +kernel) ?_)
  refine PyProof.Rows.callWith_type1 (PyProof.Rows.args_cons (thn (ha.run pins s σ H _ I h) fun v s1 ⟨x, H1, I1, r1, q1⟩ => PyProof.Rows.args_nil ?_) na) na rfl
  obtain ⟨l, ns, rfl, hq, hl, q1⟩ := q1
  cases r1
  obtain ⟨its, r, pl, hz⟩ := I1.list hq
  have hlen : its.toArray.size = ns.length := by rw [List.size_toArray, ← r.length, List.length_map]
  refine call_set_list (I1.ok.hd hc) pl.isList (by simpa using RZ.intsAre_vals r) (by rw [hlen]; unfold scanBound; omega) fun h' tk hS hk => ?_
  refine PyProof.Rows.args_nil ?_
  have b := firstMet_length_le (fun i => ns.getD i 0) ns.length
  rw [hlen] at hS
  obtain ⟨o, es, ep, t, ho, hex, hd, _, _, _, hf, hn⟩ := hS
  have I2 : Inv X pins σ H1 { s1 with heap := h', toks := tk } := I1.kept fun b o e => hk b o (Heap.lt_size e) e
  exact call_len_set ho hex hd hf (by rw [hn] <;> omega) ⟨.int (firstMet (fun i => ns.getD i 0) ns.length).length, H1, I2.tok _, ⟨_, by rw [hn]⟩, q1 _ met_one⟩
/-! ### rows compared -/
theorem eqv_ints : ∀ xs ys : List Int, PyData.eqvAll (xs.map PyData.int) (ys.map PyData.int) = decide (xs = ys)
  | [], [] => by simp [PyData.eqvAll]
  | [], y :: ys => by simp [PyData.eqvAll]
  | x :: xs, [] => by simp [PyData.eqvAll]
  | x :: xs, y :: ys => by
    simp only [List.map_cons, PyData.eqvAll, PyData.eqv]
    rw [eqv_ints xs ys]
    by_cases h1 : x = y
    · subst h1
      simp
    · simp [h1]
theorem eqv_row (xs ys : List Int) : PyData.eqv (rowP xs) (rowP ys) = decide (xs = ys) := by
  unfold rowP
  simp only [PyData.eqv]
  exact eqv_ints xs ys
def tabP (kss : List (List Int)) : PyData := .list (kss.map rowP)
theorem eqv_rows : ∀ xs ys : List (List Int), PyData.eqvAll (xs.map rowP) (ys.map rowP) = decide (xs = ys)
  | [], [] => by simp [PyData.eqvAll]
  | [], y :: ys => by simp [PyData.eqvAll]
  | x :: xs, [] => by simp [PyData.eqvAll]
  | x :: xs, y :: ys => by
    simp only [List.map_cons, PyData.eqvAll]
    rw [eqv_rows xs ys, eqv_row]
    by_cases h1 : x = y
    · subst h1
      simp
    · simp [h1]
theorem eqv_tab (xs ys : List (List Int)) : PyData.eqv (tabP xs) (tabP ys) = decide (xs = ys) := by
  unfold tabP
  simp only [PyData.eqv]
  exact eqv_rows xs ys
theorem lay_ints : ∀ xs : List Int, PyData.canLayAll0 (xs.map PyData.int) = true
  | [] => by simp [PyData.canLayAll0]
  | x :: xs => by
    simp only [List.map_cons, PyData.canLayAll0, PyData.canLay0]
    rw [lay_ints xs]
    rfl
theorem lay_row (xs : List Int) : PyData.canLay0 (rowP xs) = true := by
  unfold rowP
  simp only [PyData.canLay0]
  exact lay_ints xs
theorem lay_rows : ∀ xs : List (List Int), PyData.canLayAll0 (xs.map rowP) = true
  | [] => by simp [PyData.canLayAll0]
  | x :: xs => by
    simp only [List.map_cons, PyData.canLayAll0]
    rw [lay_rows xs, lay_row]
    rfl
theorem depth_row (xs : List Int) : (rowP xs).depth ≤ 1 := by
  unfold rowP
  simp only [PyData.depth]
  have := PySem.W.depth_ints xs
  omega
theorem depth_rows (xs : List (List Int)) : (tabP xs).depth ≤ 2 := by
  unfold tabP
  simp only [PyData.depth]
  have := depthAll_of (n := 1) (ds := xs.map rowP) fun e he => by
    obtain ⟨x, _, rfl⟩ := List.mem_map.mp he
    exact depth_row x
  omega
theorem shaped_row (xs : List Int) : SeqAt.shaped (rowP xs) = true := by
  unfold SeqAt.shaped
  rw [lay_row, decide_eq_true (Nat.le_trans (depth_row xs) (by decide))]
  rfl
theorem shaped_tab (xs : List (List Int)) : SeqAt.shaped (tabP xs) = true := by
  unfold SeqAt.shaped
  rw [decide_eq_true (Nat.le_trans (depth_rows xs) (by decide))]
  unfold tabP
  simp only [PyData.canLay0]
  rw [lay_rows]
  rfl
theorem any_row (xs : List (List Int)) (y : List Int) : ((xs.map rowP).any fun z => PyData.eqv z (rowP y)) = decide (y ∈ xs) := by
  induction xs with
  | nil => simp
  | cons x xs ih =>
    rw [List.map_cons, List.any_cons, ih, eqv_row]
    by_cases h : x = y
    · subst h
      simp
    · have h' : y ≠ x := fun z => h z.symm
      simp [h, h']
/-- a list of rows, as data -/
theorem dpAll_rows {K : PySem.W.Frag} {H : Hp} : ∀ {rs : List Addr} {kss : List (List Int)}, rs.length = kss.length → (∀ (i : Nat) r ks, rs[i]? = some r → kss[i]? = some ks → SqL K H r (ks.map V.int)) → DpAll K H (rs.map V.ref) (kss.map rowP)
  | [], [], _, _ => .nil
  | [], _ :: _, l, _ => by simp at l
  | _ :: _, [], l, _ => by simp at l
  | r :: rs, ks :: kss, l, h => .cons (dp_row (h 0 r ks rfl rfl)) (dpAll_rows (Nat.succ.inj l) fun i r' ks' a b => h (i + 1) r' ks' a b)
end GL

namespace K2
open PySem PySem.Spec PyProof.Rows L2 GL
/-! ### the table of all ties -/
structure Mat (H : Hp) (p : Addr) (ps : List Addr) (n : Nat) (f : Nat → Nat → V) : Prop where
  top : H p = some (.lst (ps.map V.ref))
  len : ps.length = n
  row : ∀ (i : Nat) (r : Addr), ps[i]? = some r → H r = some (.lst ((List.range n).map (f i)))
  nd : ps.Nodup
  np : p ∉ ps
theorem Mat.same {H H' : Hp} {p : Addr} {ps : List Addr} {n : Nat} {f : Nat → Nat → V} (m : Mat H p ps n f) (s : Same H H') : Mat H' p ps n f := ⟨s _ _ m.top, m.len, fun i r h => s _ _ (m.row i r h), m.nd, m.np⟩
theorem Mat.at {H : Hp} {p : Addr} {ps : List Addr} {n : Nat} {f : Nat → Nat → V} (m : Mat H p ps n f) {i : Nat} (hi : i < n) : ∃ r, ps[i]? = some r ∧ H r = some (.lst ((List.range n).map (f i))) := by
  have h2 : i < ps.length := by rw [m.len]; exact hi
  exact ⟨ps[i], List.getElem?_eq_getElem h2, m.row i _ (List.getElem?_eq_getElem h2)⟩
theorem Mat.congr {H : Hp} {p : Addr} {ps : List Addr} {n : Nat} {f g : Nat → Nat → V} (m : Mat H p ps n f) (e : ∀ i j, i < n → j < n → f i j = g i j) : Mat H p ps n g := ⟨m.top, m.len, fun i r h => by
  have hi : i < n := by rw [← m.len]; exact (List.getElem?_eq_some_iff.mp h).1
  rw [m.row i r h, List.map_congr_left fun j hj => e i j hi (List.mem_range.mp hj)], m.nd, m.np⟩
theorem Mat.set {H : Hp} {p r : Addr} {ps : List Addr} {n i j : Nat} {f : Nat → Nat → V} {v : V} (m : Mat H p ps n f) (hr : ps[i]? = some r) (hj : j < n) :
    Mat (upd H r (.lst (((List.range n).map (f i)).set j v))) p ps n fun a b => if a = i ∧ b = j then v else f a b := by
  have pr : p ≠ r := fun z => m.np (by rw [z]; exact List.mem_of_getElem? hr)
  refine ⟨by rw [upd_ne pr]; exact m.top, m.len, fun a q ha => ?_, m.nd, m.np⟩
  by_cases c : a = i
  · subst c
    rw [hr] at ha
    cases ha
    rw [upd_same]
    congr 2
    apply List.ext_getElem
    · rw [List.length_set, List.length_map, List.length_map]
    · intro b h1 h2
      rw [List.getElem_set, List.getElem_map, List.getElem_map, List.getElem_range]
      by_cases cb : j = b
      · subst cb
        rw [if_pos rfl, if_pos ⟨rfl, rfl⟩]
      · rw [if_neg cb, if_neg (fun z => cb z.2.symm)]
  · have qr : q ≠ r := fun z => by
      subst z
      have h1 := (List.getElem?_eq_some_iff.mp hr).1
      have h2 := (List.getElem?_eq_some_iff.mp ha).1
      have e := (List.getElem?_eq_some_iff.mp hr).2.trans (List.getElem?_eq_some_iff.mp ha).2.symm
      have nd := List.pairwise_iff_getElem.mp m.nd
      rcases Nat.lt_or_ge a i with z | z
      · exact nd a i h2 h1 z e.symm
      · exact nd i a h1 h2 (by omega) e
    rw [upd_ne qr, m.row a q ha]
    congr 2
    exact List.map_congr_left fun b _ => by rw [if_neg (fun z => c z.1)]
theorem ixN_nat {n j : Nat} (h : j < n) : ixN n (j : Int) = some j := by
  unfold ixN
  rw [if_pos (by omega), if_pos (by omega), Int.toNat_natCast]
def rLen (K : PySem.W.Frag) : List V → Hp → VK → Prop := fun xs H Q => ∃ p ys, xs = [.ref p] ∧ (SqL K H p ys ∨ SqT K H p ys) ∧ Q (.int ys.length) H
/-- the tie of two, none of one with itself -/
def tyV (kss : List (List Int)) (i j : Nat) : V := if i = j then .non else .int (tieN kss i j)
/-- the table when all above row m is put down, and r of row m -/
def ent (kss : List (List Int)) (m r i j : Nat) : V := if i ≠ j ∧ (max i j < m ∨ (max i j = m ∧ min i j < r)) then .int (tieN kss i j) else .non
theorem ent_zero (kss : List (List Int)) (i j : Nat) : ent kss 0 0 i j = .non := if_neg (by omega)
theorem ent_row (kss : List (List Int)) (m : Nat) : ent kss m m = ent kss (m + 1) 0 := by
  funext i j
  unfold ent
  by_cases h : i ≠ j ∧ (max i j < m ∨ (max i j = m ∧ min i j < m))
  · rw [if_pos h, if_pos (by omega)]
  · rw [if_neg h, if_neg (by omega)]
theorem ent_all (kss : List (List Int)) (n i j : Nat) (hi : i < n) (hj : j < n) : ent kss n 0 i j = tyV kss i j := by
  unfold ent tyV
  by_cases h : i = j
  · rw [if_neg (by omega), if_pos h]
  · rw [if_pos (by omega), if_neg h]
theorem ent_next (kss : List (List Int)) {m r : Nat} (h : r < m) : (fun a b => if a = m ∧ b = r then V.int (tieN kss m r) else (if a = r ∧ b = m then V.int (tieN kss m r) else ent kss m r a b)) = ent kss m (r + 1) := by
  funext i j
  unfold ent
  by_cases c1 : i = m ∧ j = r
  · obtain ⟨rfl, rfl⟩ := c1
    rw [if_pos ⟨rfl, rfl⟩, if_pos (by omega)]
  · rw [if_neg c1]
    by_cases c2 : i = r ∧ j = m
    · obtain ⟨rfl, rfl⟩ := c2
      rw [if_pos ⟨rfl, rfl⟩, if_pos (by omega), tieN_comm]
    · rw [if_neg c2]
      by_cases c3 : i ≠ j ∧ (max i j < m ∨ (max i j = m ∧ min i j < r))
      · rw [if_pos c3, if_pos (by omega)]
      · rw [if_neg c3, if_neg (by omega)]
theorem rep_non (n : Nat) : (List.replicate n [V.non]).flatten = List.replicate n V.non := by
  induction n with
  | zero => rfl
  | succ n ih =>
    rw [List.replicate_succ, List.replicate_succ, List.flatten_cons, ih]
    rfl
theorem rep_range (n : Nat) (v : V) : List.replicate n v = (List.range n).map fun _ => v := by
  apply List.ext_getElem
  · rw [List.length_replicate, List.length_map, List.length_range]
  · intro i h1 h2
    rw [List.getElem_replicate, List.getElem_map]
section
variable {P : Program} {w : World} {K : PySem.W.Frag} {mg : Str → Option Value} {base : Heap}
abbrev nTies : List Str := ["company", "ties", "_", "other", "row", "one", "kind"]
theorem scTies : FnScope nTies ["company"] (defScope sTies) := ⟨rfl, rfl, rfl, by decide +kernel, rfl, by decide +kernel, by decide +kernel⟩
def spTies : Sp := fun vs H Q _ => ∃ (c : Addr) (rs : List Addr) (kss : List (List Int)) (k : Int), vs = [.ref c] ∧ Tab H c rs kss ∧ Fine k kss ∧ kss.length ≤ 100 ∧
  ∀ (p : Addr) (ps : List Addr) (H' : Hp), Same H H' → Mat H' p ps kss.length (tyV kss) → Q (.ref p) H'
theorem ok_ties {f : Addr} {fd : FuncData} (F : Fun K "ties_of" "ties_of" sTies f fd) (T : Bi mg) : FnOk P w K mg base CX0 1 f fd ["company"] spTies := by
  refine F.ok scTies (fun vs H Q E h => ?_) (fun cdv A outer s H vs Q E hr h => ?_)
  · obtain ⟨c, rs, kss, k, rfl, _⟩ := h
    rfl
  · obtain ⟨c, rs, kss, k, rfl, t, fine, n100, q⟩ := h
    refine ⟨_, pss_cons (ps_setLc (i := 1) (own := [("_", 2)]) (g := gName 2) (tt := tYes) (te := tOp rRep (tLst (tCons (tC .non) tNil)) (tCB (rLen K) (tCons (tVar 0) tNil))) rfl scTies.nd rfl rfl (sw_true rfl rfl rfl (by decide +kernel)) (pi_list (pv 0))
          (blkOk_by (N := nTies) (sc := defScope sTies) (by decide +kernel)) (fun _ _ _ _ _ => pg_name (i := 2) scTies.nd rfl (Or.inl rfl)) (fun _ _ _ _ _ => pts_nil)
          (fun _ _ _ _ _ => by exact (pe_op op_rep (pe_lst (pa_cons pe_non pa_nil)) (pe_callB call_len_seq (by rfl) T.len PySem.boot_len (pa_cons (pv 0) pa_nil)))))
      (pss_cons (ps_for PassesOwn.never rfl (pi_enum (by rfl) T.enumerate (pa_cons (pv 0) pa_nil)) (pg_tup rfl (pgs_cons (pg_name (i := 3) scTies.nd rfl (Or.inl rfl)) (pgs_cons (pg_name (i := 4) scTies.nd rfl (Or.inl rfl)) pgs_nil)))
        (pss_one (ps_for PassesOwn.never rfl (pi_enum (by rfl) T.enumerate (pa_cons (pv 4) pa_nil)) (pg_tup rfl (pgs_cons (pg_name (i := 5) scTies.nd rfl (Or.inl rfl)) (pgs_cons (pg_name (i := 6) scTies.nd rfl (Or.inl rfl)) pgs_nil)))
          (pss_cons (ps_asg (pv 6) (pg_sub (pe_ix ix_list (pv 1) (pv 5) (fun _ _ => rfl)) (pv 3) set_list))
          (pss_one (ps_asg (pv 6) (pg_sub (pe_ix ix_list (pv 1) (pv 3) (fun _ _ => rfl)) (pv 5) set_list)))))))
      (pss_one (ps_ret (pv 1)))), ?_⟩
    obtain ⟨n, hn⟩ : ∃ n, kss.length = n := ⟨_, rfl⟩
    rw [hn] at n100
    have lr : (rs.map V.ref).length = n := by rw [List.length_map, t.len, hn]
    refine ⟨_, rfl, c, rfl, ⟨_, SqL.of t.top⟩, fun D hD => ?_⟩
    refine lc_list (K := K) (a := c) (xs := rs.map V.ref) (fun i H' => Same H H' ∧ ∃ ps : List Addr, H' D = some (.lst (ps.map V.ref)) ∧ ps.length = i ∧ (∀ r ∈ ps, H r = none ∧ H' r = some (.lst (List.replicate n .non))) ∧ ps.Nodup ∧ D ∉ ps)
      ⟨same_new hD, [], upd_same, rfl, by simp, List.nodup_nil, by simp⟩ (fun i H' _ z => SqL.of (z.1 _ _ t.top)) ?_ ?_
    · rintro i y H' hi ⟨s1, ps, h1, l1, a1, nd1, np1⟩
      have il := (List.getElem?_eq_some_iff.mp hi).1
      rw [lr] at il
      refine ⟨rfl, yes_of ?_⟩
      refine ⟨one_le, fun l hl => ?_⟩
      obtain ⟨H2, e2, s2, f2⟩ := gen H' hl (.lst [.non])
      rw [e2]
      clear e2
      have s12 := s1.trans s2
      refine ⟨_, rfl, c, _, rfl, .inl (SqL.of (s12 _ _ t.top)), l, _, _, rfl, rfl, f2, by omega, by omega, ?_, fun p hp => ?_⟩
      · show 1 * ((rs.map V.ref).length : Int).toNat ≤ sizeLine
        rw [lr]
        exact Nat.le_of_lt (small1000 (by omega))
      · have eq : (List.replicate ((rs.map V.ref).length : Int).toNat [V.non]).flatten = List.replicate n V.non := by
          rw [lr, Int.toNat_natCast, rep_non]
        rw [eq]
        obtain ⟨H3, e3, s3, f3⟩ := gen H2 hp (.lst (List.replicate n V.non))
        rw [e3]
        clear e3
        have s23 := s2.trans s3
        have hpD : D ≠ p := ne_of_none (s2 _ _ h1) hp
        have pps : p ∉ ps := fun z => by
          have := s2 _ _ (a1 p z).2
          rw [hp] at this
          cases this
        have hp0 : H p = none := s12.free hp
        refine ⟨ps.map V.ref, s23 _ _ h1, ?_, ?_, ps ++ [p], ?_, by rw [List.length_append, l1]; rfl, ?_, ?_, ?_⟩
        · rw [List.length_map]
          exact small1000 (by omega)
        · intro b o e
          rw [upd_ne (ne_of_none e hD)]
          exact s23 b o (s1 b o e)
        · rw [upd_same, List.map_append]
          rfl
        · intro r hr
          rcases List.mem_append.mp hr with hr | hr
          · have rD : r ≠ D := fun z => np1 (by rw [← z]; exact hr)
            rw [upd_ne rD]
            exact ⟨(a1 r hr).1, s23 _ _ (a1 r hr).2⟩
          · rw [List.mem_singleton] at hr
            subst hr
            rw [upd_ne hpD.symm]
            exact ⟨hp0, f3⟩
        · rw [List.nodup_append]
          refine ⟨nd1, by simp, fun a ha b hb => ?_⟩
          rw [List.mem_singleton] at hb
          subst hb
          exact fun z => pps (by rw [← z]; exact ha)
        · rw [List.mem_append, List.mem_singleton]
          rintro (z | z)
          · exact np1 z
          · exact hpD z
    · rintro H1 ⟨s1, ps, h1, l1, a1, nd1, np1⟩
      rw [lr] at l1
      have M0 : Mat H1 D ps n (ent kss 0 0) := ⟨h1, l1, fun i r hr => by
        rw [(a1 r (List.mem_of_getElem? hr)).2, rep_range, List.map_congr_left fun j _ => (ent_zero kss i j).symm], nd1, np1⟩
      have new : ∀ r ∈ ps, H r = none := fun r hr => (a1 r hr).1
      have keep : ∀ {H' : Hp} {r : Addr} {o : HO}, Same H H' → r ∈ ps → Same H (upd H' r o) := fun s' hr b u e => by
        rw [upd_ne (ne_of_none e (new _ hr))]
        exact s' b u e
      refine ⟨_, rfl, c, _, rfl, SqL.of (s1 _ _ t.top), ?_⟩
      refine for_it (walk_enum (K := K) (a := c) (xs := rs.map V.ref)) (fun m σ H' => ∃ a b d e : Option V, σ = [some (.ref c), some (.ref D), none, a, b, d, e] ∧ Same H H' ∧ Mat H' D ps n (ent kss m 0))
        ⟨none, none, none, none, rfl, s1, M0⟩ (fun m σ H' _ z => by
          obtain ⟨_, _, _, _, _, s', _⟩ := z
          exact SqL.of (s' _ _ t.top)) ?_ ?_
      · rintro m y σ H' H'' hm ⟨a, b, d, e, rfl, s', M⟩ ⟨A2, x1, x2, rfl, nA, rfl, e1, e2⟩
        rw [lr] at hm
        have e1' : x1 = .int (m : Nat) := (Option.some.inj e1).symm
        subst e1'
        obtain ⟨r, ks, c1, c2, c3⟩ := t.at (i := m) (by omega)
        have e2' : x2 = .ref r := by
          have e3 : (rs.map V.ref)[m]? = some x2 := e2
          rw [List.getElem?_map, c1] at e3
          exact (Option.some.inj e3).symm
        subst e2'
        obtain ⟨lk, bk⟩ := fine _ _ c2
        have s2 := s'.trans (same_new (o := .tup [.int (m : Nat), .ref r]) nA)
        have M2 := M.same (same_new (o := .tup [.int (m : Nat), .ref r]) nA)
        refine ⟨A2, [.int (m : Nat), .ref r], rfl, SqT.of upd_same, rfl, _, _, rfl, _, _, rfl, rfl, ?_⟩
        refine ⟨_, rfl, r, _, rfl, SqL.of (s2 _ _ c3), ?_⟩
        have lks : (ks.map V.int).length = m := by rw [List.length_map]; exact lk
        refine for_it (walk_enum (K := K) (a := r) (xs := ks.map V.int)) (fun j σ H' => ∃ d e : Option V, σ = [some (.ref c), some (.ref D), none, some (.int (m : Nat)), some (.ref r), d, e] ∧ Same H H' ∧ Mat H' D ps n (ent kss m j))
          ⟨d, e, rfl, s2, M2⟩ (fun j σ H' _ z => by
            obtain ⟨_, _, _, s', _⟩ := z
            exact SqL.of (s' _ _ c3)) ?_ ?_
        · rintro j y σ H3 H4 hj ⟨d, e, rfl, s3, M3⟩ ⟨A3, z1, z2, rfl, nA3, rfl, g1, g2⟩
          rw [lks] at hj
          have g1' : z1 = .int (j : Nat) := (Option.some.inj g1).symm
          subst g1'
          have jl : j < ks.length := by omega
          have ek : tieN kss m j = ks[j] := by
            have eA : kss.getD (max m j) [] = ks := by rw [List.getD_eq_getElem?_getD, Nat.max_eq_left (by omega), c2]; rfl
            unfold tieN
            rw [eA, Nat.min_eq_right (by omega), List.getD_eq_getElem?_getD, List.getElem?_eq_getElem jl]
            rfl
          have g2' : z2 = .int (tieN kss m j) := by
            have e3 : (ks.map V.int)[j]? = some z2 := g2
            rw [List.getElem?_map, List.getElem?_eq_getElem jl] at e3
            rw [ek]
            exact (Option.some.inj e3).symm
          subst g2'
          have s4 := s3.trans (same_new (o := .tup [.int (j : Nat), .int (tieN kss m j)]) nA3)
          have M4 := M3.same (same_new (o := .tup [.int (j : Nat), .int (tieN kss m j)]) nA3)
          refine ⟨A3, [.int (j : Nat), .int (tieN kss m j)], rfl, SqT.of upd_same, rfl, _, _, rfl, _, _, rfl, rfl, ?_⟩
          generalize upd H3 A3 (.tup [.int (j : Nat), .int (tieN kss m j)]) = H4 at s4 M4
          obtain ⟨rj, j1, j2⟩ := M4.at (i := j) (by omega)
          have M5 := M4.set (v := .int (tieN kss m j)) j1 (by omega : m < n)
          refine ⟨_, rfl, _, rfl, _, rfl, D, _, _, _, rfl, rfl, SqL.of M4.top, at_of (j := j) (v := V.ref rj) rfl (by rw [List.getElem?_map, j1]; rfl), _, rfl, rj, _, _, m, rfl, rfl, j2, ?_, ?_⟩
          · rw [List.length_map, List.length_range]
            exact ixN_nat (by omega)
          · have s5 : Same H _ := keep (o := .lst (((List.range n).map (ent kss m j j)).set m (.int (tieN kss m j)))) s4 (List.mem_of_getElem? j1)
            generalize upd H4 rj (.lst (((List.range n).map (ent kss m j j)).set m (.int (tieN kss m j)))) = H5 at s5 M5
            obtain ⟨rm, m1, m2⟩ := M5.at (i := m) (by omega)
            have M6 := M5.set (v := .int (tieN kss m j)) m1 (by omega : j < n)
            have s6 : Same H _ := keep (o := .lst (((List.range n).map (fun b => if m = j ∧ b = m then V.int (tieN kss m j) else ent kss m j m b)).set j (.int (tieN kss m j)))) s5 (List.mem_of_getElem? m1)
            refine ⟨_, rfl, _, rfl, _, rfl, D, _, _, _, rfl, rfl, SqL.of M5.top, at_of (j := m) (v := V.ref rm) rfl (by rw [List.getElem?_map, m1]; rfl), _, rfl, rm, _, _, j, rfl, rfl, m2, ?_, ?_⟩
            · rw [List.length_map, List.length_range]
              exact ixN_nat (by omega)
            · rw [← ent_next kss hj]
              exact ⟨_, _, rfl, s6, M6⟩
        · rintro σ H3 ⟨d, e, rfl, s3, M3⟩
          rw [lks, ent_row] at M3
          exact ⟨_, _, _, _, rfl, s3, M3⟩
      · rintro σ H' ⟨a, b, d, e, rfl, s', M⟩
        rw [lr] at M
        refine ⟨_, rfl, q D ps H' s' ?_⟩
        rw [hn]
        exact M.congr fun i j hi hj => ent_all kss n i j hi hj
end
end K2

namespace K2
open PySem PySem.Spec PyProof.Rows L2 GL
theorem dts_ints {K : PySem.W.Frag} {H : Hp} : ∀ ks : List Int, Dts K H (ks.map V.int) (ks.map PyData.int)
  | [] => .nil
  | k :: ks => .cons (.int k) (dts_ints ks)
theorem dts_rows {K : PySem.W.Frag} {H : Hp} : ∀ {rs : List Addr} {kss : List (List Int)}, rs.length = kss.length → (∀ (i : Nat) r ks, rs[i]? = some r → kss[i]? = some ks → H r = some (.lst (ks.map V.int))) → Dts K H (rs.map V.ref) (kss.map rowP)
  | [], [], _, _ => .nil
  | [], _ :: _, l, _ => by simp at l
  | _ :: _, [], l, _ => by simp at l
  | r :: rs, ks :: kss, l, h => .cons (.lst (h 0 r ks rfl rfl) (dts_ints ks)) (dts_rows (Nat.succ.inj l) fun i r' ks' a b => h (i + 1) r' ks' a b)
theorem Tab.dt {K : PySem.W.Frag} {H : Hp} {c : Addr} {rs : List Addr} {kss : List (List Int)} (t : Tab H c rs kss) : Dt K H (.ref c) (tabP kss) := .lst t.top (dts_rows t.len t.row)
theorem rows_get {k : Int} {ds : List PyData} (n : Nat) : rowsOk k n ds = true ↔ ∀ (j : Nat) (d : PyData), ds[j]? = some d → rowOk k ((n + j : Nat) : Int) d = true := by
  induction ds generalizing n with
  | nil => exact ⟨fun _ j d h => by simp at h, fun _ => rfl⟩
  | cons a ds ih =>
    show (rowOk k n a && rowsOk k (n + 1) ds) = true ↔ _
    rw [Bool.and_eq_true, ih]
    constructor
    · rintro ⟨h1, h2⟩ j d h
      cases j with
      | zero =>
        cases h
        exact h1
      | succ j =>
        have := h2 j d h
        rwa [show n + 1 + j = n + (j + 1) by omega] at this
    · intro h
      refine ⟨h 0 a rfl, fun j d hd => ?_⟩
      have := h (j + 1) d hd
      rwa [show n + (j + 1) = n + 1 + j by omega] at this
theorem Fine.comp {k : Int} {kss : List (List Int)} (f : Fine k kss) (h1 : 1 ≤ kss.length) (h2 : kss.length ≤ 40) : compOk k (tabP kss) = true := by
  unfold tabP
  show ((decide (1 ≤ (kss.map rowP).length) && decide ((kss.map rowP).length ≤ 40)) && rowsOk k 0 (kss.map rowP)) = true
  rw [List.length_map, decide_eq_true h1, decide_eq_true h2, (rows_get 0).mpr]
  · rfl
  · intro j d hd
    rw [List.getElem?_map] at hd
    cases e : kss[j]? with
    | none =>
      rw [e] at hd
      cases hd
    | some ks =>
      rw [e] at hd
      cases hd
      obtain ⟨a, b⟩ := f j ks e
      show (decide (((ks.map PyData.int).length : Int) = ((0 + j : Nat) : Int)) && (ks.map PyData.int).all (below k)) = true
      rw [List.length_map, decide_eq_true (by omega), List.all_map]
      refine List.all_eq_true.mpr fun z hz => ?_
      obtain ⟨z0, z1⟩ := b z hz
      show (decide (0 ≤ z) && decide (z < k)) = true
      rw [decide_eq_true z0, decide_eq_true z1]
      rfl
structure CoN (H0 H : Hp) (k : Int) (c : Addr) (n : Nat) : Prop where
  ex : ∃ rs kss, Tab H c rs kss ∧ kss.length = n ∧ Fine k kss ∧ c ∉ rs ∧ H0 c = none ∧ ∀ r ∈ rs, H0 r = none
theorem CoN.back {H0 H1 H : Hp} {k : Int} {c : Addr} {n : Nat} (h : CoN H1 H k c n) (f : ∀ a, H1 a = none → H0 a = none) : CoN H0 H k c n := by
  obtain ⟨rs, kss, t, l, fi, nc, n1, n2⟩ := h.ex
  exact ⟨rs, kss, t, l, fi, nc, f _ n1, fun r hr => f _ (n2 r hr)⟩
def nums (l : List Nat) : List Int := l.map fun (j : Nat) => (j : Int)
theorem natV_nums (l : List Nat) : natV l = (nums l).map V.int := by
  unfold natV nums
  rw [List.map_map]
  rfl
theorem nums_inj {l m : List Nat} (h : nums l = nums m) : l = m := by
  induction l generalizing m with
  | nil =>
    cases m with
    | nil => rfl
    | cons b m => cases h
  | cons a l ih =>
    cases m with
    | nil => cases h
    | cons b m =>
      obtain ⟨h1, h2⟩ := List.cons.inj h
      rw [ih h2, Int.ofNat.inj h1]
def rLstL (K : PySem.W.Frag) : List V → Hp → VK → Prop := fun xs H Q => ∃ p ys, xs = [.ref p] ∧ SqL K H p ys ∧ ∀ l, H l = none → Q (.ref l) (upd H l (.lst ys))
theorem call_lstL {X : Cx} : CallR X (.type "list") (rLstL X.K) := fun pins s σ H xs us Q I r ⟨p, ys, e, a, b⟩ => call_list_of pins s σ H xs us Q I r ⟨p, ys, e, .inl a, b⟩
def cplTo (n : Nat) : Nat → List (Nat × Nat)
  | 0 => []
  | m + 1 => cplTo n m ++ (List.range (n - (m + 1))).map fun j => (m, m + 1 + j)
theorem cpl_mem (n : Nat) : ∀ (m : Nat) (a b : Nat), (a, b) ∈ cplTo n m ↔ a < m ∧ a < b ∧ b < n
  | 0, a, b => by
    show (a, b) ∈ [] ↔ _
    simp
  | m + 1, a, b => by
    show (a, b) ∈ cplTo n m ++ (List.range (n - (m + 1))).map (fun j => (m, m + 1 + j)) ↔ _
    rw [List.mem_append, cpl_mem n m, List.mem_map]
    constructor
    · rintro (h | ⟨j, hj, e⟩)
      · omega
      · cases e
        have := List.mem_range.mp hj
        omega
    · intro h
      by_cases c : a < m
      · exact .inl (by omega)
      · refine .inr ⟨b - (m + 1), List.mem_range.mpr (by omega), ?_⟩
        have h1 : m = a := by omega
        have h2 : m + 1 + (b - (m + 1)) = b := by omega
        rw [h2, h1]
theorem cpl_len (n : Nat) : ∀ m, (cplTo n m).length ≤ m * n
  | 0 => Nat.zero_le _
  | m + 1 => by
    show (cplTo n m ++ (List.range (n - (m + 1))).map fun j => (m, m + 1 + j)).length ≤ _
    rw [List.length_append, List.length_map, List.length_range, Nat.succ_mul]
    have := cpl_len n m
    omega
structure Cpls (H0 H : Hp) (a : Addr) (ts : List (Addr × Nat × Nat)) : Prop where
  top : H a = some (.lst (ts.map fun t => V.ref t.1))
  row : ∀ t ∈ ts, H t.1 = some (.tup [.int (t.2.1 : Nat), .int (t.2.2 : Nat)])
  new : ∀ t ∈ ts, H0 t.1 = none
def alikeB (kss : List (List Int)) (a b : Nat) : Bool := (List.range kss.length).all fun m => m == a || m == b || decide (tieN kss m a = tieN kss m b)
theorem nodup_le : ∀ {m l : List Nat}, m.Nodup → (∀ z ∈ m, z ∈ l) → m.length ≤ l.length
  | [], _, _, _ => Nat.zero_le _
  | a :: m, l, h, s => by
    obtain ⟨h1, h2⟩ := List.nodup_cons.mp h
    have hl := s a (List.mem_cons_self ..)
    have := nodup_le (l := l.erase a) h2 fun z hz => (List.mem_erase_of_ne fun e => h1 (by rw [← e]; exact hz)).mpr (s z (List.mem_cons_of_mem _ hz))
    rw [List.length_erase_of_mem hl] at this
    have := List.length_pos_of_mem hl
    rw [List.length_cons]
    omega
theorem nums_map (l : List Nat) : (nums l).map Int.toNat = l := by
  unfold nums
  rw [List.map_map]
  exact List.map_id'' (fun x => Int.toNat_natCast x) l
theorem nodup_up {l : List Nat} (h : l.Pairwise (· < ·)) : l.Nodup := h.imp fun x => Nat.ne_of_lt x
theorem lay_tab (kss : List (List Int)) : PyData.canLay0 (tabP kss) = true := by
  unfold tabP
  simp only [PyData.canLay0]
  exact lay_rows kss
theorem Tab.dp {K : PySem.W.Frag} {H : Hp} {c : Addr} {rs : List Addr} {kss : List (List Int)} (t : Tab H c rs kss) : Dp K H (.ref c) (tabP kss) := .lst (SqL.of t.top) (dpAll_rows t.len fun i r ks a b => SqL.of (t.row i r ks a b))
theorem nat_dp {K : PySem.W.Frag} {H : Hp} {o : Addr} {l : List Nat} (h : H o = some (.lst (natV l))) : Dp K H (.ref o) (rowP (nums l)) := dp_row (SqL.of (by rw [← natV_nums]; exact h))
theorem rows_nodup {H : Hp} {rs : List Addr} {kss : List (List Int)} {k : Int} (f : Fine k kss) (l : rs.length = kss.length) (row : ∀ (i : Nat) (r : Addr) (ks : List Int), rs[i]? = some r → kss[i]? = some ks → H r = some (.lst (ks.map V.int))) : rs.Nodup := by
  refine List.pairwise_iff_getElem.mpr fun i j hi hj lt e => ?_
  have h1 := row i _ _ (List.getElem?_eq_getElem hi) (List.getElem?_eq_getElem (by omega : i < kss.length))
  have h2 := row j _ _ (List.getElem?_eq_getElem hj) (List.getElem?_eq_getElem (by omega : j < kss.length))
  rw [e, h2] at h1
  have h3 := congrArg List.length (HO.lst.inj (Option.some.inj h1))
  rw [List.length_map, List.length_map] at h3
  have a := (f i _ (List.getElem?_eq_getElem (by omega : i < kss.length))).1
  have b := (f j _ (List.getElem?_eq_getElem (by omega : j < kss.length))).1
  omega
theorem Tab.made {H : Hp} {c : Addr} {rs : List Addr} {kss : List (List Int)} {k : Int} (f : Fine k kss) (l : rs.length = kss.length) (top : H c = some (.lst (rs.map V.ref))) (row : ∀ (i : Nat) (r : Addr) (ks : List Int), rs[i]? = some r → kss[i]? = some ks → H r = some (.lst (ks.map V.int))) : Tab H c rs kss :=
  ⟨top, l, row, rows_nodup f l row⟩
def fineB (k : Int) (kss : List (List Int)) : Bool := (List.range kss.length).all fun i => decide ((kss.getD i []).length = i) && (kss.getD i []).all fun z => decide (0 ≤ z) && decide (z < k)
theorem fine_of {k : Int} {kss : List (List Int)} (h : fineB k kss = true) : Fine k kss := fun i ks e => by
  have il := (List.getElem?_eq_some_iff.mp e).1
  have := List.all_eq_true.mp h i (List.mem_range.mpr il)
  rw [List.getD_eq_getElem?_getD, e] at this
  show ks.length = i ∧ _
  have t2 : (decide (ks.length = i) && ks.all fun z => decide (0 ≤ z) && decide (z < k)) = true := this
  rw [Bool.and_eq_true] at t2
  refine ⟨of_decide_eq_true t2.1, fun z hz => ?_⟩
  have := List.all_eq_true.mp t2.2 z hz
  rw [Bool.and_eq_true] at this
  exact ⟨of_decide_eq_true this.1, of_decide_eq_true this.2⟩
theorem inV_nat (l : List Nat) (p : Nat) : inV (.int (p : Nat)) (natV l) = decide (p ∈ l) := by
  unfold inV natV
  induction l with
  | nil => rfl
  | cons a l ih =>
    rw [List.map_cons, List.any_cons, ih]
    show (((a : Nat) : Int) == (p : Int) || decide (p ∈ l)) = decide (p ∈ a :: l)
    by_cases h : a = p
    · subst h
      simp
    · have h' : ¬ p = a := fun z => h z.symm
      have h2 : ¬ (a : Int) = (p : Int) := by omega
      simp [h', h2]
theorem flat_nat (l : List Nat) : (natV l).all flatV = true := by
  unfold natV
  rw [List.all_map]
  exact List.all_eq_true.mpr fun _ _ => rfl
theorem find_none {n : Nat} {f : Nat → Bool} (h : ∀ p, p < n → f p = false) : (List.range n).find? f = none := List.find?_eq_none.mpr fun p hp => by
  rw [h p (List.mem_range.mp hp)]
  decide
theorem find_some {n m : Nat} {f : Nat → Bool} (hm : m < n) (h : ∀ p, p < m → f p = false) (hf : f m = true) : (List.range n).find? f = some m := by
  rw [List.find?_range_eq_some]
  exact ⟨hf, List.mem_range.mpr hm, fun j hj => by rw [h j hj]; rfl⟩
end K2

/-! itertools.combinations of a range, at the library's level -/
namespace Cmb
open PySem PySem.Spec PyProof.Rows
open Sem (wp)
theorem mro_c : mroOf (.type "itertools.combinations") = pure [.type "itertools.combinations", .type "object"] := by rw [mroOf_type]; kernel_rfl
theorem lookup_c_new : typeLookup (.type "itertools.combinations") "__new__" = pure (some (.builtin "itertools.combinations.__new__")) := by rw [typeLookup_type, builtinLookup_eq_fast]; kernel_rfl
theorem slot_c_init : Slot "itertools.combinations" "__init__" "object.__init__" :=
  .of (owner := "object") (n := "__init__") (by rw [typeLookup_type, builtinLookup_eq_fast]; kernel_rfl) (by decide +kernel) (by decide +kernel) (by decide +kernel)
    (by first | exact .inl (by decide +kernel) | exact .inr (by decide +kernel)) (by rw [isSubtype_type]; kernel_rfl)
theorem sub_c : isSubtype (.type "itertools.combinations") (.type "itertools.combinations") = pure true := by rw [isSubtype_type]; kernel_rfl
theorem called_c : TypeCalled "itertools.combinations" "itertools.combinations.__new__" "object.__init__" :=
  ⟨by decide +kernel, by decide +kernel, ⟨_, _, mro_c⟩, madeBy_type mro_c lookup_c_new (by decide +kernel), by decide +kernel, sub_c, slot_c_init⟩
theorem typeCall_c_2 (a b : Value) : checkTypeCall "itertools.combinations" ⟨[a, b], []⟩ = pure () := by kernel_rfl
theorem newCall_c_2 (a b : Value) : checkBuiltinCall "itertools.combinations.__new__" ⟨[.type "itertools.combinations", a, b], []⟩ = pure () := by kernel_rfl
theorem entry_c_new : entryFor table "itertools.combinations.__new__" = some Builtin.«itertools.combinations.__new__» := entryFor_of_tree (by kernel_rfl)
theorem slot_c_iter : Slot "itertools.combinations" "__iter__" "itertools.combinations.__iter__" :=
  .of (owner := "itertools.combinations") (n := "__iter__") (by rw [typeLookup_type, builtinLookup_eq_fast]; kernel_rfl) (by decide +kernel) (by decide +kernel) (by decide +kernel)
    (by first | exact .inl (by decide +kernel) | exact .inr (by decide +kernel)) sub_c
theorem slot_c_next : Slot "itertools.combinations" "__next__" "itertools.combinations.__next__" :=
  .of (owner := "itertools.combinations") (n := "__next__") (by rw [typeLookup_type, builtinLookup_eq_fast]; kernel_rfl) (by decide +kernel) (by decide +kernel) (by decide +kernel)
    (by first | exact .inl (by decide +kernel) | exact .inr (by decide +kernel)) sub_c
theorem entry_c_iter : entryFor table "itertools.combinations.__iter__" = some Builtin.«dict_keyiterator.__iter__» :=
  entryFor_alias (id' := "dict_keyiterator.__iter__") (by kernel_rfl) (by first | rfl | decide +kernel | (unfold String.splitOn; simp +decide [String.splitOnAux])) (by decide +kernel) (by kernel_rfl)
theorem entry_c_next : entryFor table "itertools.combinations.__next__" = some Builtin.«itertools.combinations.__next__» := entryFor_of_tree (by kernel_rfl)
theorem owner_c : Manifest.owners.lookup (String.ofList ['s', 'n', 'o', 'i', 't', 'a', 'n', 'i', 'b', 'm', 'o', 'c', '.', 's', 'l', 'o', 'o', 't', 'r', 'e', 't', 'i'].reverse) = some Manifest.sig_itertools_combinations := by kernel_rfl
theorem noDict_c : typeHasDict (.type "itertools.combinations") = false := by decide +kernel
theorem args_c_iter (a : Value) : argsOk "itertools.combinations.__iter__" ⟨[a], []⟩ := by
  unfold argsOk; rw [signature?_of (id := "itertools.combinations.__iter__") (n := ['_', '_', 'r', 'e', 't', 'i', '_', '_']) (o := ['s', 'n', 'o', 'i', 't', 'a', 'n', 'i', 'b', 'm', 'o', 'c', '.', 's', 'l', 'o', 'o', 't', 'r', 'e', 't', 'i']) (by kernel_rfl) owner_c]; kernel_rfl
theorem args_c_next (a : Value) : argsOk "itertools.combinations.__next__" ⟨[a], []⟩ := by
  unfold argsOk; rw [signature?_of (id := "itertools.combinations.__next__") (n := ['_', '_', 't', 'x', 'e', 'n', '_', '_']) (o := ['s', 'n', 'o', 'i', 't', 'a', 'n', 'i', 'b', 'm', 'o', 'c', '.', 's', 'l', 'o', 'o', 't', 'r', 'e', 't', 'i']) (by kernel_rfl) owner_c]; kernel_rfl
end Cmb

namespace Cmb
open PySem PySem.Spec PyProof.Rows
/-! ### all choices of r of the numbers from lo to n - 1, in order -/
def combs (n : Nat) : Nat → Nat → Nat → List (List Nat)
  | 0, _, _ => [[]]
  | r + 1, 0, lo => []
  | r + 1, d + 1, lo => (combs n r d (lo + 1)).map (lo :: ·) ++ combs n (r + 1) d (lo + 1)
/-- the row that begins at lo -/
def rowF (lo r : Nat) : List Nat := (List.range r).map (lo + ·)
theorem rowF_cons (lo r : Nat) : rowF lo (r + 1) = lo :: rowF (lo + 1) r := by
  unfold rowF
  rw [List.range_succ_eq_map, List.map_cons, List.map_map]
  congr 1
  exact List.map_congr_left fun j _ => by show lo + (j + 1) = lo + 1 + j; omega
theorem combs_len (n : Nat) : ∀ r d lo, ∀ l ∈ combs n r d lo, l.length = r
  | 0, d, lo, l, h => by
    cases d <;> (rw [combs] at h; rw [List.mem_singleton] at h; rw [h]; rfl)
  | r + 1, 0, lo, l, h => by
    rw [combs] at h
    cases h
  | r + 1, d + 1, lo, l, h => by
    rw [combs, List.mem_append, List.mem_map] at h
    rcases h with ⟨t, ht, rfl⟩ | h
    · rw [List.length_cons, combs_len n r d _ t ht]
    · exact combs_len n (r + 1) d _ l h
theorem combs_head (n : Nat) : ∀ r d lo, (combs n r d lo).head? = if r ≤ d then some (rowF lo r) else none
  | 0, d, lo => by
    rw [if_pos (Nat.zero_le _)]
    cases d <;> (rw [combs]; rfl)
  | r + 1, 0, lo => by
    rw [if_neg (by omega), combs]
    rfl
  | r + 1, d + 1, lo => by
    rw [combs, List.head?_append, List.head?_map, combs_head n r d (lo + 1), combs_head n (r + 1) d (lo + 1)]
    by_cases h : r ≤ d
    · rw [if_pos h, if_pos (show r + 1 ≤ d + 1 by omega), rowF_cons lo r]
      rfl
    · rw [if_neg h, if_neg (show ¬ r + 1 ≤ d by omega), if_neg (show ¬ r + 1 ≤ d + 1 by omega)]
      rfl
/-- the choice behind one, as a row -/
def nxt (n : Nat) : List Nat → Option (List Nat)
  | [] => none
  | a :: t => match nxt n t with
    | some t' => some (a :: t')
    | none => if (a != n - (t.length + 1)) = true then some (rowF (a + 1) (t.length + 1)) else none
/-- each is followed by the next one, the last one by e -/
def Ch {α : Type} (f : α → Option α) : List α → Option α → Prop
  | [], _ => True
  | [x], e => f x = e
  | x :: y :: r, e => f x = some y ∧ Ch f (y :: r) e
theorem Ch.append {α : Type} {f : α → Option α} : ∀ {l m : List α} {e : Option α}, Ch f l (match m with | [] => e | y :: _ => some y) → Ch f m e → Ch f (l ++ m) e
  | [], m, e, _, h => h
  | [x], [], e, h, _ => h
  | [x], y :: m, e, h, g => ⟨h, g⟩
  | x :: y :: l, m, e, h, g => ⟨h.1, Ch.append (l := y :: l) h.2 g⟩
theorem Ch.cons {n a r : Nat} {e : Option (List Nat)} : ∀ {l : List (List Nat)}, (∀ t ∈ l, t.length = r) → Ch (nxt n) l none → (e = if (a != n - (r + 1)) = true then some (rowF (a + 1) (r + 1)) else none) → Ch (nxt n) (l.map (a :: ·)) e
  | [], _, _, _ => trivial
  | [x], hl, h, he => by
    have h' : nxt n x = none := h
    have lx := hl x (List.mem_cons_self ..)
    show nxt n (a :: x) = e
    unfold nxt
    rw [h', he, lx]
  | x :: y :: l, hl, h, he => by
    refine ⟨?_, Ch.cons (l := y :: l) (fun t ht => hl t (List.mem_cons_of_mem _ ht)) h.2 he⟩
    show nxt n (a :: x) = some (a :: y)
    unfold nxt
    rw [h.1]
theorem combs_chain (n : Nat) : ∀ r d lo, lo + d = n → Ch (nxt n) (combs n r d lo) none
  | 0, d, lo, h => by cases d <;> (rw [combs]; rfl)
  | r + 1, 0, lo, h => by
    rw [combs]
    trivial
  | r + 1, d + 1, lo, h => by
    rw [combs]
    refine Ch.append ?_ (combs_chain n (r + 1) d (lo + 1) (by omega))
    have hd := combs_head n (r + 1) d (lo + 1)
    by_cases hr : r ≤ d
    · refine Ch.cons (combs_len n r d (lo + 1)) (combs_chain n r d (lo + 1) (by omega)) ?_
      by_cases c : r + 1 ≤ d
      · rw [if_pos c] at hd
        have ne : (lo != n - (r + 1)) = true := by
          rw [bne_iff_ne]
          omega
        rw [if_pos ne]
        cases e : combs n (r + 1) d (lo + 1) with
        | nil => rw [e] at hd; cases hd
        | cons y m => rw [e] at hd; exact hd
      · rw [if_neg c] at hd
        have eq : ¬ (lo != n - (r + 1)) = true := by
          rw [bne_iff_ne]
          omega
        rw [if_neg eq]
        cases e : combs n (r + 1) d (lo + 1) with
        | nil => rfl
        | cons y m => rw [e] at hd; cases hd
    · have e0 : combs n r d (lo + 1) = [] := by
        have := combs_head n r d (lo + 1)
        rw [if_neg hr] at this
        exact List.head?_eq_none_iff.mp this
      rw [e0]
      exact trivial
theorem Ch.at {α : Type} {f : α → Option α} : ∀ {l : List α} {x : α} {i : Nat}, Ch f l none → l[i]? = some x → f x = l[i + 1]?
  | [], _, _, _, h => by simp at h
  | [y], x, 0, h, e => by
    cases e
    exact h
  | [y], x, i + 1, h, e => by simp at e
  | y :: z :: l, x, 0, h, e => by
    cases e
    exact h.1
  | y :: z :: l, x, i + 1, h, e => Ch.at (l := z :: l) (i := i) h.2 e
/-- as the library has it -/
def nextC (n : Nat) (indices : List Nat) : Option (List Nat) :=
  let r := indices.length
  match (List.range r).reverse.find? fun i => indices.getD i 0 != i + n - r with
  | none => none
  | some i => some (indices.take i ++ (List.range (r - i)).map (indices.getD i 0 + 1 + ·))
theorem nextC_nxt (n : Nat) : ∀ l : List Nat, nextC n l = nxt n l
  | [] => rfl
  | a :: t => by
    have ih := nextC_nxt n t
    unfold nextC at ih ⊢
    unfold nxt
    rw [← ih]
    simp only [List.length_cons]
    rw [List.range_succ_eq_map, List.reverse_cons, List.find?_append, ← List.map_reverse, List.find?_map]
    have ef : ((fun i => (a :: t).getD i 0 != i + n - (t.length + 1)) ∘ Nat.succ) = fun i => t.getD i 0 != i + n - t.length := by
      funext i
      show ((a :: t).getD (i + 1) 0 != i + 1 + n - (t.length + 1)) = (t.getD i 0 != i + n - t.length)
      rw [List.getD_cons_succ, show i + 1 + n - (t.length + 1) = i + n - t.length by omega]
    rw [ef]
    cases h : (List.range t.length).reverse.find? (fun i => t.getD i 0 != i + n - t.length) with
    | some i =>
      have il : i < t.length := by
        have := List.mem_of_find?_eq_some h
        rw [List.mem_reverse, List.mem_range] at this
        exact this
      show some ((a :: t).take (i + 1) ++ (List.range (t.length + 1 - (i + 1))).map ((a :: t).getD (i + 1) 0 + 1 + ·)) = some (a :: (t.take i ++ (List.range (t.length - i)).map (t.getD i 0 + 1 + ·)))
      rw [List.getD_cons_succ, List.take_succ_cons, show t.length + 1 - (i + 1) = t.length - i by omega]
      rfl
    | none =>
      show (match (none : Option Nat).or ([0].find? fun i => (a :: t).getD i 0 != i + n - (t.length + 1)) with
        | none => none
        | some i => some ((a :: t).take i ++ (List.range (t.length + 1 - i)).map ((a :: t).getD i 0 + 1 + ·))) = _
      rw [Option.none_or]
      by_cases c : (a != n - (t.length + 1)) = true
      · have f0 : ([0].find? fun i => (a :: t).getD i 0 != i + n - (t.length + 1)) = some 0 := by
          refine List.find?_cons_of_pos ?_
          show (a != 0 + n - (t.length + 1)) = true
          rw [Nat.zero_add]
          exact c
        rw [f0, if_pos c]
        rfl
      · have f0 : ([0].find? fun i => (a :: t).getD i 0 != i + n - (t.length + 1)) = none := by
          rw [List.find?_cons_of_neg]
          · rfl
          · show ¬ (a != 0 + n - (t.length + 1)) = true
            rw [Nat.zero_add]
            exact c
        rw [f0, if_neg c]
def choices (n r : Nat) : List (List Nat) := combs n r n 0
theorem choices_first {n r : Nat} (h : r ≤ n) : (choices n r)[0]? = some (List.range r) := by
  have := combs_head n r n 0
  rw [if_pos h] at this
  unfold choices
  rw [← List.head?_eq_getElem?, this]
  unfold rowF
  congr 1
  conv => rhs; rw [← List.map_id (List.range r)]
  exact List.map_congr_left fun j _ => Nat.zero_add j
theorem choices_next {n r i : Nat} {x : List Nat} (h : (choices n r)[i]? = some x) : nextC n x = (choices n r)[i + 1]? := by
  rw [nextC_nxt]
  exact Ch.at (combs_chain n r n 0 (Nat.zero_add n)) h
theorem choices_none {n r : Nat} (h : n < r) : choices n r = [] := by
  have := combs_head n r n 0
  rw [if_neg (by omega)] at this
  exact List.head?_eq_none_iff.mp this
theorem choices_len {n r : Nat} {x : List Nat} (h : x ∈ choices n r) : x.length = r := combs_len n r n 0 x h
end Cmb

namespace Cmb
open PySem PySem.Spec PyProof.Rows
def recC (p : Addr) (st : Int) (last : Value) (idx : List Nat) : Array Value := ([Value.ref p, rawInt st, last] ++ idx.map fun (i : Nat) => rawInt i).toArray
abbrev IsC (h : Heap) (it p : Addr) (st : Int) (last : Value) (idx : List Nat) : Prop := h.get? it = some { cls := .type "itertools.combinations", dict := none, data := .fields (recC p st last idx), slots := #[] }
/-- the pool: the numbers below n -/
def IsPool (h : Heap) (p : Addr) (n : Nat) : Prop := ∃ acc, h.get? p = some { cls := .type "tuple", dict := none, data := .seq acc, slots := #[] } ∧ ItemsOf (fun i v => ∃ t, v = Value.int ((i : Nat) : Int) t) acc n
section
variable {prog : Program} {w : World} {A : Around} {E : Value → Shared → Prop} {s : Shared}
theorem numbers_at {it p : Addr} {st : Int} {last : Value} {idx : List Nat} {Q : List Nat → Shared → Prop} (hit : IsC s.heap it p st last idx) (h : Q idx s) : wpAny (model prog w) A (Builtin.Itertools.itNumbersFrom (.ref it) 3) Q E s := by
  unfold Builtin.Itertools.itNumbersFrom
  refine wpAny_bind (wpAny_load hit ?_)
  show wpAny _ _ (pure _) _ _ _
  refine wpAny_pure ?_
  have e : ((recC p st last idx).toList.drop 3).map (fun | .int n _ => n.toNat | _ => 0) = idx := by
    unfold recC
    rw [List.toList_toArray]
    show ((idx.map fun (i : Nat) => rawInt i)).map _ = idx
    rw [List.map_map]
    conv => rhs; rw [← List.map_id idx]
    exact List.map_congr_left fun j _ => by show ((j : Nat) : Int).toNat = j; exact Int.toNat_natCast j
  exact Eq.mpr (congrArg (fun l => Q l s) e) h
theorem field_at {it p : Addr} {st : Int} {last : Value} {idx : List Nat} {i : Nat} {x : Value} {Q : Value → Shared → Prop} (hit : IsC s.heap it p st last idx) (hx : (recC p st last idx)[i]? = some x) (h : Q x s) : wpAny (model prog w) A (field (.ref it) i) Q E s := wpAny_field hit rfl hx h
theorem state_at {it p : Addr} {st : Int} {last : Value} {idx : List Nat} {Q : Int → Shared → Prop} (hit : IsC s.heap it p st last idx) (h : Q st s) : wpAny (model prog w) A (Builtin.Itertools.itIntField (.ref it) 1) Q E s := by
  unfold Builtin.Itertools.itIntField
  exact wpAny_bind (field_at hit (x := rawInt st) rfl (wpAny_pure h))
theorem pick_at {p : Addr} {n : Nat} {idx : List Nat} {Q : Value → Shared → Prop} (hp : IsPool s.heap p n) (hb : ∀ j ∈ idx, j < n) (hl : idx.length ≤ 1000)
    (h : ∀ us : List Value, us.length = idx.length → (∀ (j k : Nat) , idx[j]? = some k → ∃ t, us[j]? = some (Value.int (k : Int) t)) → Q (.ref s.heap.objs.size) { s with heap := s.heap.push { cls := .type "tuple", data := .seq us.toArray } }) :
    wpAny (model prog w) A (Builtin.Itertools.itPoolItems (.ref p) >>= fun items => newTuple (idx.map fun i => items.getD i .none)) Q E s := by
  obtain ⟨acc, ho, hs, hi⟩ := hp
  refine wpAny_bind ?_
  unfold Builtin.Itertools.itPoolItems
  refine wpAny_bind (wpAny_seqItems ho rfl ?_)
  refine wpAny_pure ?_
  refine wpAny_newTuple (h _ (List.length_map _) fun j k e => ?_) (by rw [List.length_map]; exact Nat.le_trans hl (by decide))
  have kn := hb k (List.mem_of_getElem? e)
  rw [List.getElem?_map, e]
  have hk : k < acc.size := by rw [hs]; exact kn
  obtain ⟨t, ht⟩ := hi k _ (Array.getElem?_eq_getElem hk)
  refine ⟨t, ?_⟩
  show some (acc.getD k .none) = _
  rw [Array.getD_eq_getD_getElem?, Array.getElem?_eq_getElem hk, ← ht]
  rfl
theorem next_out {it p : Addr} {n : Nat} {last : Value} {idx : List Nat} {Q : Value → Shared → Prop} (hit : IsC s.heap it p 1 last idx) (hp : IsPool s.heap p n) (hb : ∀ j ∈ idx, j < n) (hl : idx.length ≤ 1000)
    (h : ∀ (h' : Heap) (us : List Value), us.length = idx.length → (∀ (j k : Nat) , idx[j]? = some k → ∃ t, us[j]? = some (Value.int (k : Int) t)) → IsC h' it p 1 (.ref s.heap.objs.size) idx → h'.get? s.heap.objs.size = some { cls := .type "tuple", data := .seq us.toArray } →
      (∀ b o, b ≠ it → s.heap.get? b = some o → h'.get? b = some o) → Q (.ref s.heap.objs.size) { s with heap := h' }) :
    wpAny (model prog w) A ((Builtin.Itertools.itPoolItems (.ref p) >>= fun items => newTuple (idx.map fun i => items.getD i .none)) >>= fun result => field (.ref it) 2 >>= fun before => setField (.ref it) 2 result >>= fun _ => letGo [before] [result] >>= fun _ => ret result) (fun fin s' => ∃ v, fin = .done (.ret v) ∧ Q v s') E s := by
  refine wpAny_bind (pick_at hp hb hl fun us hu hx => ?_)
  have lt := Heap.lt_size hit
  have hit2 : IsC (s.heap.push { cls := .type "tuple", data := .seq us.toArray }) it p 1 last idx := Heap.get?_push_of_some _ hit
  refine wpAny_bind (field_at (s := { s with heap := s.heap.push { cls := .type "tuple", data := .seq us.toArray } }) hit2 (x := last) rfl ?_)
  refine wpAny_bind (wpAny_setField hit2 rfl (by simp [recC]) ?_)
  refine wpAny_bind (wpAny_letGo (wpAny_pure ⟨_, rfl, h _ us hu hx ?_ ?_ ?_⟩))
  · show ((s.heap.push _).update it _).get? it = _
    rw [Heap.get?_update_self _ hit2 rfl]
    simp [recC, Obj.mapFields]
  · have ne : s.heap.objs.size ≠ it := Nat.ne_of_gt lt
    exact (Heap.SameBut.update ..).2 _ ne |>.trans (Heap.get?_push_size _ rfl)
  · intro b o hb' e
    exact ((Heap.SameBut.update ..).2 _ hb').trans (Heap.get?_push_of_some _ e)
theorem comb_first {it p : Addr} {n : Nat} {last : Value} {idx : List Nat} {Q : Option Value → Shared → Prop} (hit : IsC s.heap it p 0 last idx) (hp : IsPool s.heap p n) (hb : ∀ j ∈ idx, j < n) (hl : idx.length ≤ 1000)
    (h : ∀ (h' : Heap) (us : List Value), us.length = idx.length → (∀ (j k : Nat) , idx[j]? = some k → ∃ t, us[j]? = some (Value.int (k : Int) t)) → IsC h' it p 1 (.ref s.heap.objs.size) idx → h'.get? s.heap.objs.size = some { cls := .type "tuple", data := .seq us.toArray } →
      (∀ b o, b ≠ it → s.heap.get? b = some o → h'.get? b = some o) → Q (some (.ref s.heap.objs.size)) { s with heap := h' }) :
    wpAny (model prog w) A (callSpecial? (.ref it) "__next__") Q E s := by
  have hT : s.TypeIs (.ref it) "itertools.combinations" := ⟨_, hit, rfl⟩
  refine wpAny_callSpecial?_slot (name := Str.ofString "__next__") hT slot_c_next (wpAny_call_entry slot_c_next hT entry_c_next ?_ (args_c_next _))
  show wpAny _ _ (field (.ref it) 0 >>= _) _ _ s
  refine wpAny_bind (field_at hit (x := .ref p) rfl ?_)
  show wpAny _ _ (Builtin.Itertools.itNumbersFrom (.ref it) 3 >>= _) _ _ s
  refine wpAny_bind (numbers_at hit ?_)
  show wpAny _ _ (Builtin.Itertools.itIntField (.ref it) 1 >>= _) _ _ s
  refine wpAny_bind (state_at hit ?_)
  show wpAny _ _ (setField (.ref it) 1 (rawInt 1) >>= _) _ _ s
  refine wpAny_bind (wpAny_setField hit rfl (by simp [recC]) ?_)
  have sb := Heap.SameBut.update s.heap it (Obj.mapFields fun x => x.setIfInBounds 1 (rawInt 1))
  have hit2 : IsC (s.heap.update it (Obj.mapFields fun x => x.setIfInBounds 1 (rawInt 1))) it p 1 last idx := by
    show (s.heap.update it _).get? it = _
    rw [Heap.get?_update_self _ hit rfl]
    simp [recC, Obj.mapFields]
  have pit : p ≠ it := fun z => by
    obtain ⟨acc, ho, _⟩ := hp
    rw [z, hit] at ho
    exact absurd (Value.type.inj (congrArg Obj.cls (Option.some.inj ho))) (by decide)
  have hp2 : IsPool (s.heap.update it (Obj.mapFields fun x => x.setIfInBounds 1 (rawInt 1))) p n := by
    obtain ⟨acc, ho, r⟩ := hp
    exact ⟨acc, (sb.2 p pit).trans ho, r⟩
  refine next_out (s := { s with heap := s.heap.update it (Obj.mapFields fun x => x.setIfInBounds 1 (rawInt 1)) }) hit2 hp2 hb hl fun h' us hu hx hi ht hk => ?_
  have e : (s.heap.update it (Obj.mapFields fun x => x.setIfInBounds 1 (rawInt 1))).objs.size = s.heap.objs.size := sb.1
  rw [e] at hi ht ⊢
  exact h h' us hu hx hi ht fun b o hb e => hk b o hb ((sb.2 b hb).trans e)
theorem comb_more {it p : Addr} {n : Nat} {last : Value} {idx nx : List Nat} {Q : Option Value → Shared → Prop} (hit : IsC s.heap it p 1 last idx) (hp : IsPool s.heap p n) (hn : nextC n idx = some nx) (hb : ∀ j ∈ nx, j < n) (hl : nx.length ≤ 1000)
    (h : ∀ (h' : Heap) (us : List Value), us.length = nx.length → (∀ (j k : Nat) , nx[j]? = some k → ∃ t, us[j]? = some (Value.int (k : Int) t)) → IsC h' it p 1 (.ref s.heap.objs.size) nx → h'.get? s.heap.objs.size = some { cls := .type "tuple", data := .seq us.toArray } →
      (∀ b o, b ≠ it → s.heap.get? b = some o → h'.get? b = some o) → Q (some (.ref s.heap.objs.size)) { s with heap := h' }) :
    wpAny (model prog w) A (callSpecial? (.ref it) "__next__") Q E s := by
  have hT : s.TypeIs (.ref it) "itertools.combinations" := ⟨_, hit, rfl⟩
  refine wpAny_callSpecial?_slot (name := Str.ofString "__next__") hT slot_c_next (wpAny_call_entry slot_c_next hT entry_c_next ?_ (args_c_next _))
  show wpAny _ _ (field (.ref it) 0 >>= _) _ _ s
  refine wpAny_bind (field_at hit (x := .ref p) rfl ?_)
  show wpAny _ _ (Builtin.Itertools.itNumbersFrom (.ref it) 3 >>= _) _ _ s
  refine wpAny_bind (numbers_at hit ?_)
  show wpAny _ _ (Builtin.Itertools.itIntField (.ref it) 1 >>= _) _ _ s
  refine wpAny_bind (state_at hit ?_)
  show wpAny _ _ (Builtin.Itertools.itPoolItems (.ref p) >>= _) _ _ s
  obtain ⟨acc, ho, hs, hi⟩ := id hp
  refine wpAny_bind ?_
  unfold Builtin.Itertools.itPoolItems
  refine wpAny_bind (wpAny_seqItems ho rfl ?_)
  refine wpAny_pure ?_
  show wpAny _ _ (match nextC acc.size idx with | some next => _ | none => _) _ _ s
  rw [hs, hn]
  show wpAny _ _ (Builtin.Itertools.itSetNumbersFrom (.ref it) 3 nx >>= _) _ _ s
  refine wpAny_bind ?_
  unfold Builtin.Itertools.itSetNumbersFrom
  refine wpAny_updateFields hit rfl ?_ ?_
  · have sb := Heap.SameBut.update s.heap it (Obj.mapFields fun fs => fs.extract 0 3 ++ (nx.map fun (n : Nat) => rawInt n).toArray)
    have hit2 : IsC (s.heap.update it (Obj.mapFields fun fs => fs.extract 0 3 ++ (nx.map fun (n : Nat) => rawInt n).toArray)) it p 1 last nx := by
      show (s.heap.update it _).get? it = _
      rw [Heap.get?_update_self _ hit rfl]
      simp [recC, Obj.mapFields]
    have pit : p ≠ it := fun z => by
      rw [z, hit] at ho
      exact absurd (Value.type.inj (congrArg Obj.cls (Option.some.inj ho))) (by decide)
    have hp2 : IsPool (s.heap.update it (Obj.mapFields fun fs => fs.extract 0 3 ++ (nx.map fun (n : Nat) => rawInt n).toArray)) p n := ⟨acc, (sb.2 p pit).trans ho, hs, hi⟩
    refine next_out (s := { s with heap := s.heap.update it (Obj.mapFields fun fs => fs.extract 0 3 ++ (nx.map fun (n : Nat) => rawInt n).toArray) }) hit2 hp2 hb hl fun h' us hu hx hi ht hk => ?_
    have e : (s.heap.update it (Obj.mapFields fun fs => fs.extract 0 3 ++ (nx.map fun (n : Nat) => rawInt n).toArray)).objs.size = s.heap.objs.size := sb.1
    rw [e] at hi ht ⊢
    exact h h' us hu hx hi ht fun b o hb e => hk b o hb ((sb.2 b hb).trans e)
  · have a : ((recC p 1 last idx).extract 0 3 ++ (nx.map fun (n : Nat) => rawInt n).toArray).size ≤ 3 + 1000 := by
      rw [Array.size_append, Array.size_extract, List.size_toArray, List.size_toArray, List.length_map]
      omega
    exact Nat.le_trans a (by rw [sizeLine_eq]; decide)
theorem comb_end {it p : Addr} {n : Nat} {st : Int} {last : Value} {idx : List Nat} {Q : Option Value → Shared → Prop} (hh : A.handled = none) (hit : IsC s.heap it p st last idx) (hp : IsPool s.heap p n) (hs : st = 2 ∨ (st = 1 ∧ nextC n idx = none))
    (hQ : ∀ e h', CpRep.StopE e h' → Heap.ExtBut it s.heap h' → E e { s with heap := h' }) : wpAny (model prog w) A (callSpecial? (.ref it) "__next__") Q E s := by
  have hT : s.TypeIs (.ref it) "itertools.combinations" := ⟨_, hit, rfl⟩
  refine wpAny_callSpecial?_slot (name := Str.ofString "__next__") hT slot_c_next (wpAny_call_entry slot_c_next hT entry_c_next ?_ (args_c_next _))
  show wpAny _ _ (field (.ref it) 0 >>= _) _ _ s
  refine wpAny_bind (field_at hit (x := .ref p) rfl ?_)
  show wpAny _ _ (Builtin.Itertools.itNumbersFrom (.ref it) 3 >>= _) _ _ s
  refine wpAny_bind (numbers_at hit ?_)
  show wpAny _ _ (Builtin.Itertools.itIntField (.ref it) 1 >>= _) _ _ s
  refine wpAny_bind (state_at hit ?_)
  have stop : ∀ {h0 : Heap}, Heap.ExtBut it s.heap h0 → wpAny (model prog w) A.in1 (Builtin.Itertools.itStop : Sem Fin) (fun fin s' => ∃ v, fin = .done (.ret v) ∧ Q (some v) s') E { s with heap := h0 } := fun {h0} eb => by
    unfold Builtin.Itertools.itStop
    show wpAny _ _ (newExc (.type "StopIteration") [] >>= _) _ _ _
    refine wpAny_bind ?_
    simp only [newExc, newTuple]
    refine wpAny_bind (wpAny_newObj_type ?_ (by size_fits))
    refine wpAny_bind (m := firstArgMember _ _) (wpAny_of_eq (a := Value.none) (by first | rfl | (simp only [firstArgMember]; rfl)) ?_)
    refine wpAny_newObj_type ?_ (by size_fits)
    simp only [raiseNew]
    refine wpAny_bind (wpAny_handled ?_)
    first | rw [show A.in1.handled = none from hh] | rw [hh]
    refine wpAny_bind (wpAny_pure (wpAny_throw ?_))
    exact hQ _ _ ⟨_, _, _, rfl, Heap.get?_push_size _ rfl, rfl, rfl, rfl⟩ ((eb.push _).push _)
  rcases hs with rfl | ⟨rfl, hn⟩
  · show wpAny _ _ (PySem.rule "itertools.combinations.ended" >>= _) _ _ s
    exact wpAny_bind (wpAny_rule (stop (Heap.ExtBut.refl it s.heap)))
  · show wpAny _ _ (Builtin.Itertools.itPoolItems (.ref p) >>= _) _ _ s
    obtain ⟨acc, ho, hs, hi⟩ := id hp
    refine wpAny_bind ?_
    unfold Builtin.Itertools.itPoolItems
    refine wpAny_bind (wpAny_seqItems ho rfl ?_)
    refine wpAny_pure ?_
    show wpAny _ _ (match nextC acc.size idx with | some next => _ | none => _) _ _ s
    rw [hs, hn]
    show wpAny _ _ (setField (.ref it) 1 (rawInt 2) >>= _) _ _ s
    refine wpAny_bind (wpAny_setField hit rfl (by simp [recC]) ?_)
    exact stop (Heap.SameBut.update ..).extBut
theorem iter_self {it p : Addr} {st : Int} {last : Value} {idx : List Nat} {Q : Value → Shared → Prop} (hit : IsC s.heap it p st last idx) (h : Q (.ref it) s) : wpAny (model prog w) A (pyIter (.ref it)) Q E s := by
  have hT : s.TypeIs (.ref it) "itertools.combinations" := ⟨_, hit, rfl⟩
  refine wpAny_pyIter_slot hT slot_c_iter (wpAny_call_entry slot_c_iter hT entry_c_iter ?_ (args_c_iter _))
  show wpAny _ _ (ret (.ref it)) _ _ s
  exact wpAny_pure ⟨_, rfl, "itertools.combinations", _, hT, slot_c_next.lookup, h⟩
theorem next_of {it : Addr} {Q : Option Value → Shared → Prop} (h : wpAny (model prog w) A (callSpecial? (.ref it) "__next__") (fun r s' => r.isSome = true ∧ Q r s') (fun e s' => CpRep.StopE e s'.heap ∧ Q none s') s) : wpAny (model prog w) A (pyNext (.ref it)) Q E s := by
  unfold pyNext
  refine wpAny_bind (wpAny_attempt (wpAny_mono h (fun r s' q => ?_) fun e s' q => ?_))
  · cases r with
    | none => cases q.1
    | some v => exact wpAny_pure q.2
  · obtain ⟨⟨a, o, vs, rfl, ho, hc, hd, _⟩, q⟩ := q
    refine wpAny_bind (wpAny_isInstance (T := "StopIteration") (b := true) ⟨o, ho, hc⟩ isSubtype_stop ?_)
    exact wpAny_pure q
end
end Cmb

namespace Cmb
open PySem PySem.Spec PyProof.Rows L2
theorem class_at (rest : List Value) : Builtin.Itertools.itClassAndRest "combinations" ⟨.type "itertools.combinations" :: rest, []⟩ = pure (.type "itertools.combinations", rest) := by
  unfold Builtin.Itertools.itClassAndRest
  show (isSubtype (.type "itertools.combinations") (.type "itertools.combinations") >>= _) = _
  rw [sub_c]
  rfl
theorem bind_at (a b : Value) : Builtin.Itertools.itBindNamed "combinations" ["iterable", "r"] 2 2 [a, b] [] = pure [some a, some b] := by kernel_rfl
theorem ssize_at {r : Nat} {t : Tok} (h : r ≤ 1000) : Builtin.Itertools.itSsizeArg (.int r t) = pure (r : Int) := by
  unfold Builtin.Itertools.itSsizeArg
  show (if (decide ((r : Int) < -(2 ^ 63 : Int)) || decide ((r : Int) ≥ 2 ^ 63)) = true then _ else _) = _
  rw [decide_eq_false (by omega : ¬ ((r : Int) < -(2 ^ 63 : Int))), decide_eq_false (by omega : ¬ ((r : Int) ≥ 2 ^ 63))]
  rfl
theorem plain_c_new : plainId "itertools.combinations.__new__" = true := by decide +kernel
section
variable {prog : Program} {w : World} {A : Around} {E : Value → Shared → Prop} {s : Shared}
theorem code_c_new {rg : Addr} {n r : Nat} {t u v tr : Tok} {Q₁ : Value → Shared → Prop} (hh : A.handled = none) (hr : IsRange s.heap rg 0 n 1 t u v) (n1000 : n ≤ 1000) (r1000 : r ≤ 1000)
    (h : ∀ (h1 h' : Heap) (tk : Nat), (∀ b o, s.heap.get? b = some o → h1.get? b = some o) → (∀ b o, h1.get? b = some o → h'.get? b = some o) → IsPool h' h1.objs.size n → IsC h' (h1.objs.size + 1) h1.objs.size (if r > n then 2 else 0) .none (List.range r) → Q₁ (.ref (h1.objs.size + 1)) { s with heap := h', toks := tk }) :
    codeAny (model prog w) A (.call (.builtin "itertools.combinations.__new__") ⟨[.type "itertools.combinations", .ref rg, .int r tr], []⟩) (wants Q₁ E) s := by
  refine codeAny_of_tree ?_
  show wpAny _ A.in1 (do checkBuiltinCall "itertools.combinations.__new__" ⟨[.type "itertools.combinations", .ref rg, .int r tr], []⟩; again (.builtin "itertools.combinations.__new__" ⟨[.type "itertools.combinations", .ref rg, .int r tr], []⟩)) _ _ s
  refine wpAny_bind (wpAny_of_eq (newCall_c_2 _ _) (wpAny_pure ⟨plainId_quiet plain_c_new _, codeAny_builtin entry_c_new ?_⟩))
  rw [Around.under_plainId plain_c_new _]
  have hsub := sub_c
  have hd := noDict_c
  have hTI : s.TypeIs (.ref rg) "range" := ⟨_, hr, rfl⟩
  have hh1 : A.in1.handled = none := hh
  have hsmall : Builtin.Range.small 0 n 1 = true := small_one (by omega) (by omega) (by omega) (by omega)
  have hn : Builtin.Range.rangeSize 0 n 1 = n := by rw [rangeSize_one]; split <;> omega
  unfold Builtin.«itertools.combinations.__new__»
  refine wpAny_bind ?_
  show wpAny _ _ (Builtin.Itertools.itClassAndRest "combinations" ⟨.type "itertools.combinations" :: [.ref rg, .int r tr], []⟩ >>= _) _ _ s
  refine wpAny_bind (wpAny_of_eq (class_at _) ?_)
  show wpAny _ _ (Builtin.Itertools.itBindNamed "combinations" ["iterable", "r"] 2 2 [.ref rg, .int r tr] [] >>= _) _ _ s
  refine wpAny_bind (wpAny_of_eq (bind_at _ _) ?_)
  show wpAny _ _ (Builtin.Itertools.itSsizeArg (.int r tr) >>= _) _ _ s
  refine wpAny_bind (wpAny_of_eq (ssize_at r1000) ?_)
  show wpAny _ _ (collect (.ref rg) >>= _) _ _ s
  refine wpAny_bind (collect_range hh1 hr hsmall hn (by omega) fun h' tk acc hk hacc => ?_)
  show wpAny _ _ (if ((r : Int) < 0) then _ else _) _ _ _
  rw [if_neg (by omega)]
  show wpAny _ _ (if Builtin.Itertools.itTooMany (r : Int) = true then _ else _) _ _ _
  have tm : Builtin.Itertools.itTooMany (r : Int) = false := decide_eq_false (by omega)
  rw [if_neg (by rw [tm]; decide)]
  show wpAny _ _ (newTuple acc.toList >>= _) _ _ _
  have al : acc.toList.length = n := by rw [Array.length_toList, hacc.1]
  refine wpAny_bind (wpAny_newTuple ?_ (by rw [al]; exact Nat.le_trans n1000 (by decide)))
  refine wpAny_pure ?_
  show wpAny _ _ (Builtin.Itertools.itNewRecord (.type "itertools.combinations") ([.ref h'.objs.size, rawInt (if (r : Int).toNat > acc.toList.length then 2 else 0), .none] ++ (List.range (r : Int).toNat).map fun (i : Nat) => rawInt i) >>= _) _ _ _
  refine wpAny_bind ?_
  unfold Builtin.Itertools.itNewRecord
  rw [al, Int.toNat_natCast, if_pos (by rw [hd]; rfl)]
  have sz1 : (h'.push { cls := .type "tuple", data := .seq acc.toList.toArray }).objs.size = h'.objs.size + 1 := by simp [Heap.push]
  refine wpAny_newObj_type ?_ ?_
  · refine wpAny_pure ?_
    rw [sz1]
    refine h h' _ _ hk (fun b o e => Heap.get?_push_of_some _ (Heap.get?_push_of_some _ e)) ⟨acc, ?_, ?_⟩ ?_
    · refine Heap.get?_push_of_some _ ?_
      rw [Heap.get?_push_size _ rfl, Array.toArray_toList]
    · exact ⟨hacc.1, fun j v e => by
        obtain ⟨t, ht⟩ := hacc.2 j v e
        exact ⟨t, by rw [ht, Int.zero_add, Int.mul_one]⟩⟩
    · show ((h'.push _).push _).get? (h'.objs.size + 1) = _
      rw [← sz1]
      exact Heap.get?_push_size _ (by rfl)
  · show ((([Value.ref h'.objs.size, rawInt (if r > n then 2 else 0), Value.none] ++ (List.range r).map fun (i : Nat) => rawInt i).toArray).size ≤ sizeLine + 2)
    rw [List.size_toArray, List.length_append, List.length_map, List.length_range, sizeLine_eq]
    show 3 + r ≤ _
    omega
end
end Cmb

namespace Cmb
open PySem PySem.Spec PyProof.Rows L2
theorem combs_low (n : Nat) : ∀ r d lo, lo + d = n → ∀ l ∈ combs n r d lo, ∀ j ∈ l, lo ≤ j ∧ j < n
  | 0, d, lo, _, l, h, j, hj => by
    cases d <;> (rw [combs] at h; rw [List.mem_singleton] at h; rw [h] at hj; cases hj)
  | r + 1, 0, lo, _, l, h, j, hj => by
    rw [combs] at h
    cases h
  | r + 1, d + 1, lo, e, l, h, j, hj => by
    rw [combs, List.mem_append, List.mem_map] at h
    rcases h with ⟨t, ht, rfl⟩ | h
    · rcases List.mem_cons.mp hj with rfl | hj
      · omega
      · have := combs_low n r d (lo + 1) (by omega) t ht j hj
        omega
    · have := combs_low n (r + 1) d (lo + 1) (by omega) l h j hj
      omega
theorem choices_low {n r : Nat} {l : List Nat} (h : l ∈ choices n r) : ∀ j ∈ l, j < n := fun j hj => (combs_low n r n 0 (Nat.zero_add n) l h j hj).2
def natT (l : List Nat) : List V := l.map fun (j : Nat) => V.int (j : Int)
/-- one choice after the other, each a new tuple -/
def YC (n r : Nat) (i : Nat) (H : Hp) (x : V) (H' : Hp) : Prop := ∃ (T : Addr) (l : List Nat), x = .ref T ∧ H T = none ∧ (choices n r)[i]? = some l ∧ H' = upd H T (.tup (natT l))
def Itcb (n r : Nat) : It := ⟨fun i _ => i < (choices n r).length, YC n r, fun i _ => (choices n r).length ≤ i⟩
/-- the iterator's state ahead of turn i -/
def St (n r : Nat) (it p : Addr) (i : Nat) (h : Heap) : Prop := p ≠ it ∧ IsPool h p n ∧ match i with
  | 0 => ∃ last, IsC h it p (if r > n then 2 else 0) last (List.range r)
  | i + 1 => ∃ last l, (choices n r)[i]? = some l ∧ IsC h it p 1 last l
theorem turn_comb {P : Program} {w : World} {K : PySem.W.Frag} {tg : Expr} (it p : Addr) (n r : Nat) (r1000 : r ≤ 1000) : Turn P w K tg (Itcb n r) [it, p] it (St n r it p) where
  mem := by simp
  obj := fun i h st b hb => by
    obtain ⟨ne, ⟨acc, hp, _⟩, hi⟩ := st
    have e' : b = it ∨ b = p := by simpa using hb
    rcases e' with z | z
    · rw [z]
      cases i with
      | zero => obtain ⟨last, hi⟩ := hi; exact ⟨_, hi, fun v q => nomatch (show Data.fields _ = Data.cell v from q)⟩
      | succ i => obtain ⟨last, l, _, hi⟩ := hi; exact ⟨_, hi, fun v q => nomatch (show Data.fields _ = Data.cell v from q)⟩
    · rw [z]
      exact ⟨_, hp, fun v q => nomatch (show Data.seq _ _ = Data.cell v from q)⟩
  keep := fun i h h' st k => by
    obtain ⟨ne, ⟨acc, hp, hs⟩, hi⟩ := st
    refine ⟨ne, ⟨acc, k p (by simp) _ hp, hs⟩, ?_⟩
    cases i with
    | zero => obtain ⟨last, hi⟩ := hi; exact ⟨last, k it (by simp) _ hi⟩
    | succ i => obtain ⟨last, l, e, hi⟩ := hi; exact ⟨last, l, e, k it (by simp) _ hi⟩
  item := by
    intro X hP hw hK hc i pins s σ H E I hf st hg
    subst hP hw hK
    obtain ⟨ne, pool, hi⟩ := st
    have hil : it < s.heap.objs.size := by
      cases i with
      | zero => obtain ⟨last, hi⟩ := hi; exact Heap.lt_size hi
      | succ i => obtain ⟨last, l, _, hi⟩ := hi; exact Heap.lt_size hi
    have hpl : p < s.heap.objs.size := by
      obtain ⟨acc, hp, _⟩ := pool
      exact Heap.lt_size hp
    have gl : i < (choices n r).length := hg
    obtain ⟨nx, enx⟩ : ∃ nx, (choices n r)[i]? = some nx := ⟨_, List.getElem?_eq_getElem gl⟩
    have low := choices_low (List.mem_of_getElem? enx)
    have len := choices_len (List.mem_of_getElem? enx)
    have fin : ∀ (h' : Heap) (us : List Value), us.length = nx.length → (∀ (j k : Nat) , nx[j]? = some k → ∃ t, us[j]? = some (Value.int (k : Int) t)) → IsC h' it p 1 (.ref s.heap.objs.size) nx → h'.get? s.heap.objs.size = some { cls := .type "tuple", data := .seq us.toArray } →
        (∀ b o, b ≠ it → s.heap.get? b = some o → h'.get? b = some o) →
        ∃ u, (some (Value.ref s.heap.objs.size)) = some u ∧ wpAny (model X.prog X.w) X.A (letOwnedTupleGo tg (.ref it) u) (fun _ s2 => ∃ x H', Inv X pins σ H' s2 ∧ RelV x u ∧ (Itcb n r).yld i H x H' ∧ St n r it p (i + 1) s2.heap ∧ ∀ b ∈ [it, p], H' b = none) E { s with heap := h' } := fun h' us hu hx hi ht hk => by
      have rel : Vals (natT nx) us := vals_of_at (by unfold natT; rw [List.length_map, hu]) fun j x u e1 e2 => by
        unfold natT at e1
        rw [List.getElem?_map] at e1
        cases e3 : nx[j]? with
        | none => rw [e3] at e1; cases e1
        | some k =>
          rw [e3] at e1
          cases e1
          obtain ⟨t, e4⟩ := hx j k e3
          rw [e4] at e2
          cases e2
          exact ⟨t, rfl⟩
      have new : ObjOk X.prog X.w (upd H s.heap.objs.size (.tup (natT nx))) h' s.heap.objs.size (.tup (natT nx)) :=
        ⟨by unfold natT; rw [List.length_map, len]; exact Nat.le_trans r1000 (by decide), us, rel, ⟨_, ht, rfl, _, rfl⟩⟩
      have I1 : Inv X pins σ (upd H s.heap.objs.size (.tup (natT nx))) { s with heap := h', toks := s.toks } :=
        I.turnedNew (ch := [it, p]) (fun b ob hb q => hk b ob (fun z => hb (by simp [z])) q) hf (Nat.le_refl _) new
      refine ⟨_, rfl, go_of (s := { s with heap := h' }) (n := "itertools.combinations") hi rfl rfl (by decide) ⟨.ref s.heap.objs.size, _, I1, rfl, ⟨_, nx, rfl, I.hok.fresh (Nat.le_refl _), enx, rfl⟩, ⟨ne, ?_, _, nx, enx, hi⟩, fun b hb => ?_⟩⟩
      · obtain ⟨acc, hp, hs⟩ := pool
        exact ⟨acc, hk p _ ne hp, hs⟩
      · have hb' : b < s.heap.objs.size := by
          have e' : b = it ∨ b = p := by simpa using hb
          rcases e' with z | z
          · rw [z]; exact hil
          · rw [z]; exact hpl
        rw [upd_ne (Nat.ne_of_lt hb')]
        exact (hf b hb).1
    refine next_of ?_
    cases i with
    | zero =>
      obtain ⟨last, hi⟩ := hi
      have rn : r ≤ n := by
        rcases Nat.lt_or_ge n r with z | z
        · rw [choices_none z] at gl
          cases gl
        · exact z
      have st0 : (if r > n then (2 : Int) else 0) = 0 := if_neg (by omega)
      rw [st0] at hi
      rw [choices_first rn] at enx
      cases enx
      exact comb_first hi pool low (by rw [len]; exact r1000) fun h' us a b c d e => ⟨rfl, fin h' us a b c d e⟩
    | succ i =>
      obtain ⟨last, l, e, hi⟩ := hi
      have hn := choices_next e
      rw [enx] at hn
      exact comb_more hi pool hn low (by rw [len]; exact r1000) fun h' us a b c d e => ⟨rfl, fin h' us a b c d e⟩
  done := by
    intro X hP hw hK hc i pins s σ H E I hf st hg
    subst hP hw hK
    obtain ⟨ne, pool, hi⟩ := st
    obtain ⟨f0, f1, f2, f3, f4, f5⟩ := hf it (by simp)
    have gl : (choices n r).length ≤ i := hg
    refine next_of ?_
    have fin : ∀ e h', CpRep.StopE e h' → Heap.ExtBut it s.heap h' → CpRep.StopE e h' ∧ ((none : Option Value) = none ∧ Inv X pins σ H { s with heap := h' }) := fun e h' se eb => ⟨se, rfl, I.turned (t' := s.toks) (fun b o hb e => eb b o hb e) f0 f1 f3 f4 f5⟩
    cases i with
    | zero =>
      obtain ⟨last, hi⟩ := hi
      have rn : r > n := by
        rcases Nat.lt_or_ge n r with z | z
        · exact z
        · have := choices_first z
          rw [List.length_eq_zero_iff.mp (Nat.le_zero.mp gl)] at this
          cases this
      exact comb_end (I.ok.hd hc) hi pool (.inl (if_pos rn)) fin
    | succ i =>
      obtain ⟨last, l, e, hi⟩ := hi
      have hn := choices_next e
      rw [List.getElem?_eq_none gl] at hn
      exact comb_end (I.ok.hd hc) hi pool (.inr ⟨rfl, hn⟩) fin
  self := fun A i s Q E st h => by
    obtain ⟨ne, pool, hi⟩ := st
    cases i with
    | zero => obtain ⟨last, hi⟩ := hi; exact iter_self hi h
    | succ i => obtain ⟨last, l, e, hi⟩ := hi; exact iter_self hi h
section
variable {X : Cx} {tg : Expr}
theorem cr_range1 : CallR X (.type "range") (fun vs H Q => ∃ j, vs = [V.int j] ∧ ∀ p, H p = none → Q (.ref p) (upd H p (.rng 0 j))) := by
  intro pins s σ H vs us Q I r h
  obtain ⟨j, rfl, q⟩ := h
  obtain ⟨u1, rfl, rj⟩ := vals1 r
  obtain ⟨t, rfl⟩ := rj
  refine call_range_1 ⟨.ref s.heap.objs.size, upd H s.heap.objs.size (.rng 0 j), I.laid (t' := s.toks + 1 + 1) (fun b o e => Heap.get?_push_of_some _ e) (Nat.le_refl _) ?_, rfl, q _ (I.hok.fresh (Nat.le_refl _))⟩
  exact ⟨s.toks, t, s.toks + 1, Heap.get?_push_size _ rfl⟩
/-- combinations(range(..), r) walked -/
def iComb (ta : TA) : TI := fun σ H R => ta σ H fun vs H1 => ∃ (a : Addr) (n r : Nat), vs = [.ref a, .int r] ∧ H1 a = some (.rng 0 n) ∧ n ≤ 1000 ∧ r ≤ 1000 ∧ R (Itcb n r) H1
theorem pi_comb {e e2 : Expr} {ta : TA} {p pos : Pos} {x : Str} (hg : Gl X x) (hm : X.mg x = some (.type "itertools.combinations")) (ha : PA X [e, e2] ta) (hcalm : X.calm = true := by rfl) (hdb : (x == ("__debug__" : Str)) = false := by decide)
    (hs : starEach [e, e2] X.env = [(false, eval e X.env), (false, eval e2 X.env)] := by rfl) (hs2 : starEach [e2] X.env = [(false, eval e2 X.env)] := by rfl) : PI X tg (.Call (.Name x p) [e, e2] [] pos) (iComb ta) := by
  refine ⟨fun pins s σ H R I h => ?_⟩
  refine Call_ (ld_glob I hg hm (PyProof.Rows.callWith_type1 (thn (ha.run pos pins s σ H _ I h) fun us s1 ⟨vs, H1, I1, r1, q1⟩ => ?_) (by rw [hs, hs2]) (by rw [hs2]; rfl)) hdb)
  obtain ⟨a, n, r, ex, hr, n1, r1', q⟩ := q1
  subst ex
  cases r1 with
  | cons ra rr =>
    cases rr with
    | cons rb rr =>
      cases rr
      cases ra
      obtain ⟨t, rfl⟩ := rb
      obtain ⟨t1, t2, t3, hrg⟩ := (show ObjOk X.prog X.w H1 s1.heap a (.rng 0 n) from I1.hok _ _ hr)
      refine callType_codes (Q₁ := fun obj s₁ => s₁.TypeIs obj "itertools.combinations" ∧ wpAny (model X.prog X.w) X.A (pyIter obj) (PIE X pins σ tg R) X.xe s₁) called_c (typeCall_c_2 _ _) F.entry_object_init
        (code_c_new (A := X.A.in1) (I1.ok.hd hcalm) hrg n1 r1' fun h1 h' tk k1 k2 pool hc => ⟨⟨_, hc, rfl⟩, ?_⟩) fun obj s₁ h₁ => ?_
      · have I2 : Inv X pins σ H1 { s1 with heap := h1, toks := tk } := I1.kept k1
        have I3 : Inv X pins σ H1 { s1 with heap := h', toks := tk } := I2.kept (t' := tk) k2
        refine iter_self hc ?_
        refine ⟨h1.objs.size + 1, [h1.objs.size + 1, h1.objs.size], _, _, H1, rfl, I3, turn_comb (h1.objs.size + 1) h1.objs.size n r r1', ⟨(Nat.succ_ne_self _).symm, pool, _, hc⟩, fun b hb => ?_, q⟩
        have e' : b = h1.objs.size + 1 ∨ b = h1.objs.size := by simpa using hb
        have hle : h1.objs.size ≤ b := by
          rcases e' with z | z
          · rw [z]; exact Nat.le_add_right _ _
          · rw [z]; exact Nat.le_refl _
        have f0 := I2.fpOk (H' := H1) hle (I2.hok.fresh hle)
        exact f0
      · exact ⟨h₁.1, F.args_object_init_3 obj _ _, object_init_meets called_c.init.lookup called_c.made (by decide +kernel) X.prog X.w X.A.in1 _ s₁ ⟨h₁.1, rfl, h₁.2⟩⟩
theorem walk_comb {n r : Nat} : Walk (Itcb n r) (choices n r).length (fun _ => True) (YC n r) := ⟨fun _ _ h _ => h, fun _ _ => Nat.le_refl _, fun _ _ _ _ _ _ y => y⟩
end
end Cmb

namespace K2
open PySem PySem.Spec PyProof.Rows L2 GL
abbrev sCouple : Stmt := topS 17
abbrev sOrderB : Stmt := topS 19
abbrev sCheckCs : Stmt := topS 22
abbrev sCheckCp : Stmt := topS 23
abbrev sAreAlike : Stmt := topS 27
abbrev sCplAlike : Stmt := topS 28
def pairT (c : Nat × Nat) : List V := [.int (c.1 : Nat), .int (c.2 : Nat)]
theorem kit_tup {K : PySem.W.Frag} : PySem.W.kitOne K (.type "tuple") (.type "tuple") = some true := kit_ty (show kitB "tuple" "tuple" = some true by decide +kernel)
theorem choices_two (n : Nat) : ∀ d m, m + d = n → (cplTo n n).map (fun c => [c.1, c.2]) = (cplTo n m).map (fun c => [c.1, c.2]) ++ Cmb.combs n 2 d m
  | 0, m, h => by
    have : m = n := by omega
    subst this
    rw [Cmb.combs, List.append_nil]
  | d + 1, m, h => by
    rw [choices_two n d (m + 1) (by omega), Cmb.combs]
    have e1 : ∀ d lo, Cmb.combs n 1 d lo = (List.range d).map fun j => [lo + j] := fun d => by
      induction d with
      | zero => intro lo; rw [Cmb.combs]; rfl
      | succ d ih =>
        intro lo
        rw [Cmb.combs, ih (lo + 1), List.range_succ_eq_map, List.map_cons, List.map_map]
        have e0 : Cmb.combs n 0 d (lo + 1) = [[]] := by cases d <;> (rw [Cmb.combs])
        rw [e0]
        show [lo] :: _ = [lo + 0] :: _
        rw [Nat.add_zero]
        congr 1
        exact List.map_congr_left fun j _ => by show [lo + 1 + j] = [lo + (j + 1)]; rw [show lo + 1 + j = lo + (j + 1) by omega]
    show (cplTo n m ++ (List.range (n - (m + 1))).map fun j => (m, m + 1 + j)).map _ ++ _ = _
    rw [List.map_append, List.append_assoc, e1, List.map_map, List.map_map, show n - (m + 1) = d by omega]
    rfl
theorem choices_pairs (n : Nat) : Cmb.choices n 2 = (cplTo n n).map fun c => [c.1, c.2] := by
  rw [choices_two n n 0 (Nat.zero_add n)]
  rfl
section
variable {P : Program} {w : World} {K : PySem.W.Frag} {mg : Str → Option Value} {base : Heap}
theorem scCouple : FnScope ["many", "value"] ["many", "value"] (defScope sCouple) := ⟨rfl, rfl, rfl, by decide +kernel, rfl, by decide +kernel, by decide +kernel⟩
def spCouple : Sp := fun vs H Q _ => ∃ (n : Nat) (t : Addr) (c : Nat × Nat), vs = [.int n, .ref t] ∧ H t = some (.tup (pairT c)) ∧ c.1 < c.2 ∧ c.2 < n ∧ Q (.bl true) H
theorem ok_couple {f : Addr} {fd : FuncData} (F : Fun K "is_couple" "is_couple" sCouple f fd) (T : Bi mg) (U : Use P w K mg base "is_below" ["value", "bound"] (spBelow K) 2) : FnOk P w K mg base CX0 3 f fd ["many", "value"] spCouple := by
  refine F.ok scCouple (fun vs H Q E h => ?_) (fun cdv A outer s H vs Q E hr h => ?_)
  · obtain ⟨n, t, c, rfl, _⟩ := h
    rfl
  · obtain ⟨n, t, c, rfl, ht, c1, c2, q⟩ := h
    refine ⟨_, pss_cons (ps_if (PW.pt (pw_or (pt_not (pt_val (pe_callB call_isi (by rfl) T.isinstance (by decide +kernel) (pa_cons (pv 1) (pa_cons (pe_bltn (v := .ty "tuple") (by rfl) T.tuple (by decide +kernel) rfl) pa_nil)))))
        (pw_or1 (pt_cmpR op_ne (pe_callB call_len_seq (by rfl) T.len PySem.boot_len (pa_cons (pv 1) pa_nil)) pe_int (nomark _))))) (pss_one (ps_ret pe_bl)) pss_nil)
      (pss_one (ps_ret (pe_and (pe_use U hr (by rfl) (pa_cons (pe_ix ix_tup (pv 1) pe_int (fun _ _ => rfl)) (pa_cons (pv 0) pa_nil))) (pe_one (pe_use U hr (by rfl) (pa_cons (pe_ix ix_tup (pv 1) pe_int (fun _ _ => rfl)) (pa_cons (pe_ix ix_tup (pv 1) pe_int (fun _ _ => rfl)) pa_nil))))))), ?_⟩
    have at0 : atI (pairT c) 0 = some (.int (c.1 : Nat)) := rfl
    have at1 : atI (pairT c) 1 = some (.int (c.2 : Nat)) := rfl
    refine ⟨_, rfl, _, _, _, _, _, rfl, .ty "tuple", .base (.tup ht), kit_tup, _, rfl, iteF ⟨_, rfl, t, _, rfl, .inr (SqT.of ht), rfl, _, rfl, ?_⟩⟩
    refine iteF ?_
    refine ⟨_, rfl, t, _, _, _, rfl, rfl, SqT.of ht, at1, _, rfl, _, .int (c.2 : Nat), n, rfl, .int _, _, rfl, ?_⟩
    have z1 : below n (.int (c.2 : Nat)) = true := by
      show (decide ((0 : Int) ≤ (c.2 : Nat)) && decide (((c.2 : Nat) : Int) < n)) = true
      rw [decide_eq_true (by omega : (0 : Int) ≤ (c.2 : Nat)), decide_eq_true (by omega : ((c.2 : Nat) : Int) < n)]
      rfl
    rw [z1]
    refine iteT ⟨_, rfl, t, _, _, _, rfl, rfl, SqT.of ht, at0, _, rfl, t, _, _, _, rfl, rfl, SqT.of ht, at1, _, .int (c.1 : Nat), (c.2 : Nat), rfl, .int _, ?_⟩
    have z2 : below (c.2 : Nat) (.int (c.1 : Nat)) = true := by
      show (decide ((0 : Int) ≤ (c.1 : Nat)) && decide (((c.1 : Nat) : Int) < (c.2 : Nat))) = true
      rw [decide_eq_true (by omega : (0 : Int) ≤ (c.1 : Nat)), decide_eq_true (by omega : ((c.1 : Nat) : Int) < (c.2 : Nat))]
      rfl
    rw [z2]
    exact q
theorem scCheckCp : FnScope ["company", "couple"] ["company", "couple"] (defScope sCheckCp) := ⟨rfl, rfl, rfl, by decide +kernel, rfl, by decide +kernel, by decide +kernel⟩
def spCheckCp : Sp := fun vs H Q _ => ∃ (c t : Addr) (xs : List V) (p : Nat × Nat), vs = [.ref c, .ref t] ∧ H c = some (.lst xs) ∧ H t = some (.tup (pairT p)) ∧ p.1 < p.2 ∧ p.2 < xs.length ∧ Q .non H
theorem ok_checkCp {f : Addr} {fd : FuncData} (F : Fun K "check_couple" "check_couple" sCheckCp f fd) (T : Bi mg) (U : Use P w K mg base "is_couple" ["many", "value"] spCouple 3) : FnOk P w K mg base CX0 4 f fd ["company", "couple"] spCheckCp := by
  refine F.ok scCheckCp (fun vs H Q E h => ?_) (fun cdv A outer s H vs Q E hr h => ?_)
  · obtain ⟨c, t, xs, p, rfl, _⟩ := h
    rfl
  · obtain ⟨c, t, xs, p, rfl, hc, ht, p1, p2, q⟩ := h
    refine ⟨_, pss_one (ps_if (pt_not (pt_val (pe_use U hr (by rfl) (pa_cons (pe_callB call_len_seq (by rfl) T.len PySem.boot_len (pa_cons (pv 0) pa_nil)) (pa_cons (pv 1) pa_nil))))) (pss_one ps_never) pss_nil), ?_⟩
    exact ⟨_, rfl, c, _, rfl, .inl (SqL.of hc), _, rfl, xs.length, t, p, rfl, ht, p1, p2, _, rfl, iteF q⟩
theorem scOrderB : FnScope ["many", "value", "person"] ["many", "value"] (defScope sOrderB) := ⟨rfl, rfl, rfl, by decide +kernel, rfl, by decide +kernel, by decide +kernel⟩
def spOrderB : Sp := fun vs H Q _ => ∃ (n : Nat) (o : Addr) (os : List Nat), vs = [.int n, .ref o] ∧ n ≤ 100 ∧ H o = some (.lst (natV os)) ∧ os.Perm (List.range n) ∧ ∀ H', Same H H' → Q (.bl true) H'
theorem trues_moreB (i : Nat) : (List.replicate (i + 1) true).map V.bl = (List.replicate i true).map V.bl ++ [V.bl true] := trues_more i
theorem ok_orderB {f : Addr} {fd : FuncData} (F : Fun K "is_order" "is_order" sOrderB f fd) (T : Bi mg) (U : Use P w K mg base "is_below" ["value", "bound"] (spBelow K) 2) : FnOk P w K mg base CX0 3 f fd ["many", "value"] spOrderB := by
  refine F.ok scOrderB (fun vs H Q E h => ?_) (fun cdv A outer s H vs Q E hr h => ?_)
  · obtain ⟨n, o, os, rfl, _⟩ := h
    rfl
  · obtain ⟨n, o, os, rfl, n100, ho, pm, q⟩ := h
    refine ⟨_, pss_cons (ps_if (PW.pt (pw_or (pt_not (pt_val (pe_callB call_isi (by rfl) T.isinstance (by decide +kernel) (pa_cons (pv 1) (pa_cons (pe_bltn (v := .ty "list") (by rfl) T.list PyProof.Rows.boot_list rfl) pa_nil)))))
        (pw_or1 (pt_not (pt_val (pe_callB (cr_all rfl) (by rfl) T.all (by decide +kernel) (pa_cons (pe_lc (own := [("person", 2)]) (g := gName 2) (tt := tYes) rfl scOrderB.nd (pi_list (pv 1)) (blkOk_by (N := ["many", "value", "person"]) (sc := defScope sOrderB) (by decide +kernel))
          (fun _ _ _ _ _ => pg_name (i := 2) scOrderB.nd rfl (Or.inl rfl)) (fun _ _ _ _ _ => pts_nil) (fun _ _ _ _ _ => pe_use U hr (by rfl) (pa_cons (pv 2) (pa_cons (pv 0) pa_nil)))) pa_nil)))))) ) (pss_one (ps_ret pe_bl)) pss_nil)
      (pss_one (ps_ret (pe_cmpR (op_eqD hr.units) (pe_callB cr_sortedI (by rfl) T.sorted (by decide +kernel) (pa_cons (pv 1) pa_nil)) (pe_listRg rfl (by rfl) T.list (prg_1 (by rfl) T.range (pv 0))) (nomark _)))), ?_⟩
    have ln : os.length = n := by rw [pm.length_eq, List.length_range]
    have ll : (natV os).length = n := by unfold natV; rw [List.length_map, ln]
    refine ⟨_, rfl, _, _, _, _, _, rfl, .ty "list", .base (.lst ho), kit_list (.list []), _, rfl, iteF ⟨_, rfl, o, rfl, ⟨_, SqL.of ho⟩, fun D hD => ?_⟩⟩
    refine lc_list (K := K) (a := o) (xs := natV os) (fun i H' => Same H H' ∧ H' D = some (.lst ((List.replicate i true).map V.bl))) ⟨same_new hD, upd_same⟩ (fun i H' _ z => SqL.of (z.1 _ _ ho)) ?_ ?_
    · rintro i y H' hi ⟨s1, h1⟩
      unfold natV at hi
      rw [List.getElem?_map] at hi
      cases e : os[i]? with
      | none =>
        rw [e] at hi
        cases hi
      | some p =>
        rw [e] at hi
        cases hi
        have pl : p < n := List.mem_range.mp (pm.mem_iff.mp (List.mem_of_getElem? e))
        have il := (List.getElem?_eq_some_iff.mp e).1
        refine ⟨rfl, yes_of ⟨_, rfl, _, rfl, _, .int (p : Nat), n, rfl, .int _, ?_⟩⟩
        have z : below n (.int (p : Nat)) = true := by
          show (decide ((0 : Int) ≤ (p : Nat)) && decide (((p : Nat) : Int) < n)) = true
          rw [decide_eq_true (by omega : (0 : Int) ≤ (p : Nat)), decide_eq_true (by omega : ((p : Nat) : Int) < n)]
          rfl
        rw [z]
        refine ⟨_, h1, ?_, fun b o' e' => ?_, ?_⟩
        · rw [List.length_map, List.length_replicate]
          exact small1000 (by omega)
        · rw [upd_ne (ne_of_none e' hD)]
          exact s1 b o' e'
        · rw [upd_same, trues_more]
    · rintro H' ⟨s1, h1⟩
      refine ⟨D, _, rfl, SqL.of h1, _, rfl, ?_⟩
      rw [trues_all]
      refine iteF ?_
      refine ⟨_, rfl, o, nums os, rfl, SqL.of (by rw [← natV_nums]; exact s1 _ _ ho), fun ns' p pm2 so hp => ?_⟩
      obtain ⟨H2, e2, s2, f2⟩ := gen H' hp (.lst (ns'.map V.int))
      rw [e2]
      clear e2
      have en : ns' = nums (List.range n) := by
        have pn : ns'.Perm (nums (List.range n)) := pm2.trans (pm.map _)
        refine PySem.W.os_sorted_one pn so ?_
        unfold nums
        exact List.pairwise_map.mpr (List.pairwise_lt_range.imp fun h => by omega)
      refine ⟨_, rfl, _, rfl, RgOk.of_le (by omega) (by omega) (by omega) (by omega), fun l hl => ?_⟩
      obtain ⟨H3, e3, s3, f3⟩ := gen H2 hl (.lst (rgV 0 (n : Int)))
      rw [e3]
      clear e3
      refine ⟨rowP ns', rowP (nums (List.range n)), dp_row (SqL.of (s3 _ _ f2)), nat_dp (by rw [f3, rg_nat]), shaped_row _, shaped_row _, ?_⟩
      rw [eqv_row, decide_eq_true en]
      exact q _ (s1.trans (s2.trans s3))
theorem scCheckCs : FnScope ["kinds", "one", "other"] ["kinds", "one", "other"] (defScope sCheckCs) := ⟨rfl, rfl, rfl, by decide +kernel, rfl, by decide +kernel, by decide +kernel⟩
def spCheckCs : Sp := fun vs H Q _ => ∃ (k : Int) (c d : Addr) (rs ps : List Addr) (kss lss : List (List Int)), vs = [.int k, .ref c, .ref d] ∧ 2 ≤ k ∧ k ≤ 9 ∧ Tab H c rs kss ∧ Tab H d ps lss ∧ Fine k kss ∧ Fine k lss ∧ 1 ≤ kss.length ∧ kss.length ≤ 40 ∧ lss.length = kss.length ∧ ∀ H', Same H H' → Q .non H'
theorem ok_checkCs {f : Addr} {fd : FuncData} (F : Fun K "check_companies" "check_companies" sCheckCs f fd) (T : Bi mg) (U : Use P w K mg base "check_company" ["kinds", "company"] (spCheckC K) 5) (V : Use P w K mg base "is_company_of" ["kinds", "value"] (spCompOf K) 4) : FnOk P w K mg base CX0 6 f fd ["kinds", "one", "other"] spCheckCs := by
  refine F.ok scCheckCs (fun vs H Q E h => ?_) (fun cdv A outer s H vs Q E hr h => ?_)
  · obtain ⟨k, c, d, rs, ps, kss, lss, rfl, _⟩ := h
    rfl
  · obtain ⟨k, c, d, rs, ps, kss, lss, rfl, k2, k9, t, u, f1, f2, m1, m40, e, q⟩ := h
    refine ⟨_, pss_cons (ps_expr (pe_use U hr (by rfl) (pa_cons (pv 0) (pa_cons (pv 1) pa_nil))))
      (pss_cons (ps_if (pt_not (pt_val (pe_use V (hr.mono (by decide)) (by rfl) (pa_cons (pv 0) (pa_cons (pv 2) pa_nil))))) (pss_one ps_never) pss_nil)
      (pss_one (ps_if (pt_cmpR op_ne (pe_callB call_len_seq (by rfl) T.len PySem.boot_len (pa_cons (pv 1) pa_nil)) (pe_callB call_len_seq (by rfl) T.len PySem.boot_len (pa_cons (pv 2) pa_nil)) (nomark _)) (pss_one ps_never) pss_nil))), ?_⟩
    refine ⟨_, rfl, _, rfl, k, .ref c, tabP kss, rfl, k2, k9, t.dt, f1.comp m1 m40, fun H1 s1 => ?_⟩
    refine ⟨_, rfl, _, rfl, _, tabP lss, k, rfl, (u.same s1).dt, fun H2 s2 => ⟨_, rfl, ?_⟩⟩
    rw [f2.comp (by omega) (by omega)]
    have t2 := (t.same s1).same s2
    have u2 := (u.same s1).same s2
    refine iteF ⟨_, rfl, c, _, rfl, .inl (SqL.of t2.top), _, rfl, d, _, rfl, .inl (SqL.of u2.top), rfl, _, rfl, ?_⟩
    refine iteNS ?_ (q _ (s1.trans s2))
    rw [List.length_map, List.length_map, t.len, u.len, e]
abbrev nAreAlike : List Str := ["ties", "one", "other", "third", "row"]
theorem scAreAlike : FnScope nAreAlike ["ties", "one", "other"] (defScope sAreAlike) := ⟨rfl, rfl, rfl, by decide +kernel, rfl, by decide +kernel, by decide +kernel⟩
def spAreAlike : Sp := fun vs H Q _ => ∃ (m : Addr) (ps : List Addr) (kss : List (List Int)) (a b : Nat), vs = [.ref m, .int a, .int b] ∧ Mat H m ps kss.length (tyV kss) ∧ kss.length ≤ 100 ∧ a < kss.length ∧ b < kss.length ∧ a ≠ b ∧ ∀ H', Same H H' → Q (.bl (alikeB kss a b)) H'
theorem tyV_ne {kss : List (List Int)} {i a b : Nat} (ha : i ≠ a) (hb : i ≠ b) : decide (tyV kss i a = tyV kss i b) = decide (tieN kss i a = tieN kss i b) := by
  unfold tyV
  rw [if_neg ha, if_neg hb]
  by_cases c : tieN kss i a = tieN kss i b
  · simp [c]
  · simp [c]
theorem ty_scal (kss : List (List Int)) (i a b : Nat) : scal (tyV kss i a) (tyV kss i b) = true := by
  unfold tyV
  by_cases h1 : i = a
  · by_cases h2 : i = b
    · rw [if_pos h1, if_pos h2]; rfl
    · rw [if_pos h1, if_neg h2]; rfl
  · by_cases h2 : i = b
    · rw [if_neg h1, if_pos h2]; rfl
    · rw [if_neg h1, if_neg h2]; rfl
theorem ok_areAlike {f : Addr} {fd : FuncData} (F : Fun K "are_alike" "are_alike" sAreAlike f fd) (T : Bi mg) : FnOk P w K mg base CX0 1 f fd ["ties", "one", "other"] spAreAlike := by
  refine F.ok scAreAlike (fun vs H Q E h => ?_) (fun cdv A outer s H vs Q E hr h => ?_)
  · obtain ⟨m, ps, kss, a, b, rfl, _⟩ := h
    rfl
  · obtain ⟨m, ps, kss, a, b, rfl, M, n100, al, bl, ab, q⟩ := h
    refine ⟨_, pss_cons (ps_for PassesOwn.never rfl (pi_enum (by rfl) T.enumerate (pa_cons (pv 0) pa_nil)) (pg_tup rfl (pgs_cons (pg_name (i := 3) scAreAlike.nd rfl (Or.inl rfl)) (pgs_cons (pg_name (i := 4) scAreAlike.nd rfl (Or.inl rfl)) pgs_nil)))
        (pss_one (ps_if (PW.pt (pw_and (pt_cmpR op_ne (pe_ix ix_list (pv 4) (pv 1) (fun _ _ => rfl)) (pe_ix ix_list (pv 4) (pv 2) (fun _ _ => rfl)) (nomark _)) (pw_and (pt_cmpR op_ne (pv 3) (pv 1) (nomark _)) (pw_and1 (pt_cmpR op_ne (pv 3) (pv 2) (nomark _))))))
          (pss_one (ps_ret pe_bl)) pss_nil)))
      (pss_one (ps_ret pe_bl)), ?_⟩
    have lp : (ps.map V.ref).length = kss.length := by rw [List.length_map, M.len]
    refine ⟨_, rfl, m, _, rfl, SqL.of M.top, ?_⟩
    refine for_it (walk_enum (K := K) (a := m) (xs := ps.map V.ref)) (fun i σ H' => ∃ x y : Option V, σ = [some (.ref m), some (.int a), some (.int b), x, y] ∧ Same H H' ∧ ∀ j, j < i → (j == a || j == b || decide (tieN kss j a = tieN kss j b)) = true)
      ⟨none, none, rfl, Same.refl _, fun p hp => absurd hp (Nat.not_lt_zero p)⟩ (fun i σ H' _ z => by
        obtain ⟨_, _, _, s', _⟩ := z
        exact SqL.of (s' _ _ M.top)) ?_ ?_
    · rintro i y σ H1 H2 hi ⟨x, z, rfl, s1, yes⟩ ⟨A2, x1, x2, rfl, nA, rfl, e1, e2⟩
      rw [lp] at hi
      have e1' : x1 = .int (i : Nat) := (Option.some.inj e1).symm
      subst e1'
      obtain ⟨r, c1, c2⟩ := M.at hi
      have e2' : x2 = .ref r := by
        have e3 : (ps.map V.ref)[i]? = some x2 := e2
        rw [List.getElem?_map, c1] at e3
        exact (Option.some.inj e3).symm
      subst e2'
      have s2 := s1.trans (same_new (o := .tup [.int (i : Nat), .ref r]) nA)
      refine ⟨A2, [.int (i : Nat), .ref r], rfl, SqT.of upd_same, rfl, _, _, rfl, _, _, rfl, rfl, ?_⟩
      generalize upd H1 A2 (.tup [.int (i : Nat), .ref r]) = H2 at s2
      have next : (i == a || i == b || decide (tieN kss i a = tieN kss i b)) = true → ∃ x y : Option V, [some (V.ref m), some (.int a), some (.int b), some (.int (i : Nat)), some (.ref r)] = [some (.ref m), some (.int a), some (.int b), x, y] ∧ Same H H2 ∧ ∀ j, j < i + 1 → (j == a || j == b || decide (tieN kss j a = tieN kss j b)) = true := fun z =>
        ⟨_, _, rfl, s2, fun p hp => by
          by_cases c : p = i
          · subst c
            exact z
          · exact yes p (by omega)⟩
      have tz : ∀ x, x < kss.length → atI ((List.range kss.length).map (tyV kss i)) ((x : Nat) : Int) = some (tyV kss i x) := fun x hx => atI_nat (by rw [List.getElem?_map, List.getElem?_range hx]; rfl)
      refine ⟨_, rfl, _, rfl, r, _, _, _, rfl, rfl, SqL.of (s2 _ _ c2), tz a al, _, rfl, _, rfl, r, _, _, _, rfl, rfl, SqL.of (s2 _ _ c2), tz b bl, ty_scal kss i a b, _, rfl, ?_⟩
      have dn : ∀ x : Nat, decide (V.int (i : Nat) = V.int (x : Nat)) = (i == x) := fun x => by
        by_cases c : i = x
        · subst c; simp
        · have : ¬ ((i : Nat) : Int) = (x : Nat) := by omega
          simp [c, this]
      by_cases ia : i = a
      · have nn := next (by rw [ia]; simp)
        refine ite2 (fun _ => ?_) (fun _ => iteF nn)
        refine ⟨_, rfl, _, rfl, rfl, _, rfl, ?_⟩
        rw [dn, ia]
        simp only [beq_self_eq_true, Bool.not_true]
        rw [ia] at nn
        exact iteF (iteF nn)
      · by_cases ib : i = b
        · have nn := next (by rw [ib]; simp)
          refine ite2 (fun _ => ?_) (fun _ => iteF nn)
          refine ⟨_, rfl, _, rfl, rfl, _, rfl, ?_⟩
          rw [dn]
          have : (i == a) = false := by simpa using ia
          rw [this]
          refine iteT ⟨_, rfl, _, rfl, rfl, _, rfl, ?_⟩
          rw [dn]
          have : (i == b) = true := by simpa using ib
          rw [this]
          exact iteF nn
        · have eA : (i == a) = false := by simpa using ia
          have eB : (i == b) = false := by simpa using ib
          rw [tyV_ne ia ib]
          by_cases c3 : tieN kss i a = tieN kss i b
          · rw [decide_eq_true c3]
            exact iteF (iteF (next (by rw [c3]; simp)))
          · rw [decide_eq_false c3]
            refine iteT ⟨_, rfl, _, rfl, rfl, _, rfl, ?_⟩
            rw [dn, eA]
            refine iteT ⟨_, rfl, _, rfl, rfl, _, rfl, ?_⟩
            rw [dn, eB]
            refine iteT ?_
            have ef : alikeB kss a b = false := by
              cases h : alikeB kss a b with
              | false => rfl
              | true =>
                have := List.all_eq_true.mp h i (List.mem_range.mpr hi)
                rw [eA, eB] at this
                simp [c3] at this
            rw [ef] at q
            exact q _ s2
    · rintro σ H1 ⟨x, z, rfl, s1, yes⟩
      have ea : alikeB kss a b = true := List.all_eq_true.mpr fun j hj => yes j (by rw [lp]; exact List.mem_range.mp hj)
      rw [ea] at q
      exact q H1 s1
end
end K2

namespace K2
open PySem PySem.Spec PyProof.Rows L2 GL
abbrev sAmongC : Stmt := topS 29
abbrev sInOrder : Stmt := topS 30
abbrev sUnlikeC : Stmt := topS 31
abbrev sTieP : Stmt := topS 32
abbrev sStand : Stmt := topS 33
abbrev sAlikes : Stmt := topS 34
abbrev sAmong : Stmt := topS 35
abbrev sRenamed : Stmt := topS 36
abbrev sDiffer : Stmt := topS 37
/-- the company of the people at os -/
def rowN (kss : List (List Int)) (os : List Nat) (i : Nat) : List Int := (List.range i).map fun j => tieN kss (os.getD i 0) (os.getD j 0)
def namedK (kss : List (List Int)) (os : List Nat) : List (List Int) := (List.range os.length).map (rowN kss os)
theorem named_len (kss : List (List Int)) (os : List Nat) : (namedK kss os).length = os.length := by
  unfold namedK
  rw [List.length_map, List.length_range]
theorem named_fine {k : Int} {kss : List (List Int)} {os : List Nat} (f : Fine k kss) (nd : os.Nodup) (bd : ∀ j ∈ os, j < kss.length) : Fine k (namedK kss os) := fun i ks e => by
  unfold namedK at e
  rw [List.getElem?_map] at e
  cases h : (List.range os.length)[i]? with
  | none =>
    rw [h] at e
    cases e
  | some x =>
    obtain ⟨hi, hx⟩ := List.getElem?_eq_some_iff.mp h
    rw [List.getElem_range] at hx
    subst hx
    rw [List.length_range] at hi
    rw [h] at e
    cases e
    unfold rowN
    refine ⟨by rw [List.length_map, List.length_range], fun z hz => ?_⟩
    obtain ⟨j, hj, rfl⟩ := List.mem_map.mp hz
    have hji := List.mem_range.mp hj
    have hjl : j < os.length := by omega
    have gi : os.getD i 0 = os[i] := by rw [List.getD_eq_getElem?_getD, List.getElem?_eq_getElem hi]; rfl
    have gj : os.getD j 0 = os[j] := by rw [List.getD_eq_getElem?_getD, List.getElem?_eq_getElem hjl]; rfl
    rw [gi, gj]
    refine tieN_in f (bd _ (List.getElem_mem _)) (bd _ (List.getElem_mem _)) fun z => ?_
    have := (List.getElem_inj nd).mp z
    omega
theorem tie_named {kss : List (List Int)} {os : List Nat} {i j : Nat} (hi : i < os.length) (hj : j < os.length) (ne : i ≠ j) : tieN (namedK kss os) i j = tieN kss (os.getD i 0) (os.getD j 0) := by
  have base : ∀ {a b : Nat}, a < os.length → b < a → tieN (namedK kss os) a b = tieN kss (os.getD a 0) (os.getD b 0) := fun {a b} ha hb => by
    have e1 : (namedK kss os).getD (max a b) [] = rowN kss os a := by
      unfold namedK
      rw [Nat.max_eq_left (by omega), List.getD_eq_getElem?_getD, List.getElem?_map, List.getElem?_range ha]
      rfl
    conv => lhs; unfold tieN
    rw [e1, Nat.min_eq_right (by omega)]
    unfold rowN
    rw [List.getD_eq_getElem?_getD, List.getElem?_map, List.getElem?_range hb]
    rfl
  rcases Nat.lt_or_ge j i with h | h
  · exact base hi h
  · rw [tieN_comm, base hj (by omega), tieN_comm]
theorem Tab.entry {H : Hp} {c : Addr} {rs : List Addr} {kss : List (List Int)} {k : Int} (t : Tab H c rs kss) (fine : Fine k kss) {i j : Nat} (hi : i < j) (hj : j < kss.length) :
    ∃ (r : Addr) (ks : List Int), atI (rs.map V.ref) ((j : Nat) : Int) = some (.ref r) ∧ H r = some (.lst (ks.map V.int)) ∧ atI (ks.map V.int) ((i : Nat) : Int) = some (.int (tieN kss j i)) := by
  obtain ⟨r, ks, a1, a2, a3⟩ := t.at hj
  obtain ⟨lk, _⟩ := fine _ _ a2
  have il : i < ks.length := by omega
  refine ⟨r, ks, atI_nat (by rw [List.getElem?_map, a1]; rfl), a3, atI_nat ?_⟩
  have ez : tieN kss j i = ks[i] := by
    have eA : kss.getD (max j i) [] = ks := by rw [List.getD_eq_getElem?_getD, Nat.max_eq_left (by omega), a2]; rfl
    unfold tieN
    rw [eA, Nat.min_eq_right (by omega), List.getD_eq_getElem?_getD, List.getElem?_eq_getElem il]
    rfl
  rw [List.getElem?_map, List.getElem?_eq_getElem il, ez]
  rfl
theorem cpl_take {f : Nat × Nat → Bool} {l : List (Nat × Nat)} {i : Nat} {c : Nat × Nat} (e : l[i]? = some c) : (l.take (i + 1)).filter f = (l.take i).filter f ++ (if f c then [c] else []) := by
  rw [List.take_add_one, e, List.filter_append]
  congr 1
  show [c].filter f = _
  cases h : f c <;> simp [h]
theorem Cpls.same {H0 H H' : Hp} {a : Addr} {ts : List (Addr × Nat × Nat)} (r : Cpls H0 H a ts) (s : Same H H') : Cpls H0 H' a ts := ⟨s _ _ r.top, fun t ht => s _ _ (r.row t ht), r.new⟩
/-- one more couple at the end -/
theorem Cpls.push {H0 H H' : Hp} {D p : Addr} {ts : List (Addr × Nat × Nat)} {c : Nat × Nat} (R : Cpls H0 H D ts) (s : Same H H') (hp : H p = none) (h0 : H0 p = none) (f : H' p = some (.tup (pairT c))) : Cpls H0 (upd H' D (.lst ((ts.map fun t => V.ref t.1) ++ [V.ref p]))) D (ts ++ [(p, c)]) := by
  have Dp : D ≠ p := ne_of_none R.top hp
  refine ⟨?_, ?_, ?_⟩
  · rw [upd_same, List.map_append]
    rfl
  · intro u hu
    rcases List.mem_append.mp hu with hu | hu
    · have h0 := R.row u hu
      have uD : u.1 ≠ D := ne_of h0 R.top (by intro z; cases z)
      rw [upd_ne uD]
      exact s _ _ h0
    · rw [List.mem_singleton] at hu
      subst hu
      show upd H' D _ p = _
      rw [upd_ne Dp.symm]
      exact f
  · intro u hu
    rcases List.mem_append.mp hu with hu | hu
    · exact R.new u hu
    · rw [List.mem_singleton] at hu
      subst hu
      exact h0
/-- the name that the text has from itertools -/
def Im (mg : Str → Option Value) : Prop := mg "combinations" = some (.type "itertools.combinations")
section
variable {P : Program} {w : World} {K : PySem.W.Frag} {mg : Str → Option Value} {base : Heap}
abbrev nCplAlike : List Str := ["ties", "one", "other"]
theorem scCplAlike : FnScope nCplAlike ["ties"] (defScope sCplAlike) := ⟨rfl, rfl, rfl, by decide +kernel, rfl, by decide +kernel, by decide +kernel⟩
def spCplAlike : Sp := fun vs H Q _ => ∃ (m : Addr) (ps : List Addr) (kss : List (List Int)), vs = [.ref m] ∧ Mat H m ps kss.length (tyV kss) ∧ kss.length ≤ 100 ∧
  ∀ (p : Addr) (ts : List (Addr × Nat × Nat)) (H' : Hp), Same H H' → H p = none → Cpls H H' p ts → ts.map (·.2) = (cplTo kss.length kss.length).filter (fun c => alikeB kss c.1 c.2) → Q (.ref p) H'
theorem ok_cplAlike {f : Addr} {fd : FuncData} (F : Fun K "couples_alike" "couples_alike" sCplAlike f fd) (T : Bi mg) (I : Im mg) (U : Use P w K mg base "are_alike" ["ties", "one", "other"] spAreAlike 1) : FnOk P w K mg base CX0 2 f fd ["ties"] spCplAlike := by
  refine F.ok scCplAlike (fun vs H Q E h => ?_) (fun cdv A outer s H vs Q E hr h => ?_)
  · obtain ⟨m, ps, kss, rfl, _⟩ := h
    rfl
  · obtain ⟨m, ps, kss, rfl, M, n100, q⟩ := h
    refine ⟨_, pss_one (ps_ret (pe_lc (own := [("one", 1), ("other", 2)]) (g := gTup K 2 (gCons (gName 1) (gCons (gName 2) gNil))) (tt := tTest (tCall spAreAlike [] E0 (tCons (tVar 0) (tCons (tVar 1) (tCons (tVar 2) tNil))))) (te := tTup (tCons (tVar 1) (tCons (tVar 2) tNil))) rfl scCplAlike.nd
        (Cmb.pi_comb (by rfl) I (pa_cons (pe_callTy Cmb.cr_range1 (by rfl) T.range (by decide +kernel) (pa_cons (pe_callB call_len_seq (by rfl) T.len PySem.boot_len (pa_cons (pv 0) pa_nil)) pa_nil)) (pa_cons pe_int pa_nil)))
        (blkOk_by (N := nCplAlike) (sc := defScope sCplAlike) (by decide +kernel)) (fun _ _ _ _ _ => pg_tup rfl (pgs_cons (pg_name (i := 1) scCplAlike.nd rfl (Or.inl rfl)) (pgs_cons (pg_name (i := 2) scCplAlike.nd rfl (Or.inl rfl)) pgs_nil)))
        (fun _ _ _ _ _ => by exact (pts_one (pt_val (pe_use U hr (by rfl) (pa_cons (pv 0) (pa_cons (pv 1) (pa_cons (pv 2) pa_nil))))))) (fun _ _ _ _ _ => by exact (pe_tup (pa_cons (pv 1) (pa_cons (pv 2) pa_nil)))))), ?_⟩
    obtain ⟨n, hn⟩ : ∃ n, kss.length = n := ⟨_, rfl⟩
    have lp : (ps.map V.ref).length = n := by rw [List.length_map, M.len, hn]
    refine ⟨_, rfl, m, _, rfl, .inl (SqL.of M.top), _, rfl, fun rg hrg => ?_⟩
    rw [lp]
    obtain ⟨H1, e1, s1, f1⟩ := gen H hrg (.rng 0 (n : Int))
    rw [e1]
    clear e1
    rw [hn] at n100 q
    refine ⟨rg, n, 2, rfl, f1, by omega, by decide, fun D hD => ?_⟩
    have hD0 : H D = none := s1.free hD
    have cl : (Cmb.choices n 2).length = (cplTo n n).length := by rw [choices_pairs, List.length_map]
    have big : (cplTo n n).length ≤ 10000 := Nat.le_trans (cpl_len n n) (Nat.mul_le_mul n100 n100)
    refine lc_it (Cmb.walk_comb (n := n) (r := 2)) (fun i H' => Same H1 H' ∧ ∃ ts, Cpls H H' D ts ∧ ts.map (·.2) = ((cplTo n n).take i).filter (fun c => alikeB kss c.1 c.2))
      ⟨same_new hD, [], ⟨upd_same, by simp, by simp⟩, rfl⟩ (fun _ _ _ _ => trivial) ?_ ?_
    · rintro i y H2 H3 hi ⟨s2, ts, R, e2⟩ ⟨T2, l, rfl, nT, el, rfl⟩
      rw [choices_pairs, List.getElem?_map] at el
      cases ec : (cplTo n n)[i]? with
      | none =>
        rw [ec] at el
        cases el
      | some c =>
        rw [ec] at el
        cases el
        obtain ⟨w1, w2, w3⟩ := (cpl_mem n n c.1 c.2).mp (List.mem_of_getElem? ec)
        have eT : Cmb.natT [c.1, c.2] = pairT c := rfl
        rw [eT]
        obtain ⟨H4, e4, s4, f4⟩ := gen H2 nT (.tup (pairT c))
        rw [e4]
        clear e4
        have s24 := s2.trans s4
        have s04 := s1.trans s24
        refine ⟨T2, pairT c, rfl, SqT.of f4, rfl, _, _, rfl, _, _, rfl, rfl, rfl, ?_⟩
        refine ⟨_, rfl, _, rfl, _, rfl, m, ps, kss, c.1, c.2, rfl, M.same s04, by omega, by omega, by omega, by omega, fun H5 s5 => ⟨_, rfl, ?_⟩⟩
        have s25 := s4.trans s5
        cases ha : alikeB kss c.1 c.2 with
        | false =>
          refine iteF ⟨s2.trans s25, ts, R.same s25, ?_⟩
          rw [cpl_take ec, ha, if_neg (by decide), List.append_nil]
          exact e2
        | true =>
          refine iteT ⟨_, rfl, _, rfl, (by show 2 ≤ sizeLine; decide), fun p hp => ?_⟩
          obtain ⟨H6, e6, s6, f6⟩ := gen H5 hp (.tup [.int (c.1 : Nat), .int (c.2 : Nat)])
          rw [e6]
          clear e6
          have s26 := s25.trans s6
          have hp2 : H2 p = none := s25.free hp
          refine ⟨_, s26 _ _ R.top, ?_, fun b o e' => ?_, ts ++ [(p, c)], R.push s26 hp2 (s1.free (s2.free hp2)) f6, ?_⟩
          · have lt : ts.length ≤ (cplTo n n).length := by
              have := congrArg List.length e2
              rw [List.length_map] at this
              rw [this]
              exact Nat.le_trans (List.length_filter_le _ _) (by rw [List.length_take]; omega)
            rw [List.length_map, sizeLine_eq]
            omega
          · rw [upd_ne (ne_of_none e' hD)]
            exact s26 b o (s2 b o e')
          · rw [List.map_append, e2, cpl_take ec, ha]
            rfl
    · rintro H2 ⟨s2, ts, R, e2⟩
      rw [cl, List.take_length] at e2
      exact q D ts H2 (s1.trans s2) hD0 R e2
abbrev nUnlikeC : List Str := ["one", "other", "low", "high"]
theorem scUnlikeC : FnScope nUnlikeC ["one", "other"] (defScope sUnlikeC) := ⟨rfl, rfl, rfl, by decide +kernel, rfl, by decide +kernel, by decide +kernel⟩
def spUnlikeC : Sp := fun vs H Q _ => ∃ (c d : Addr) (rs ps : List Addr) (kss lss : List (List Int)) (k : Int), vs = [.ref c, .ref d] ∧ Tab H c rs kss ∧ Tab H d ps lss ∧ Fine k kss ∧ Fine k lss ∧ kss.length ≤ 100 ∧ lss.length = kss.length ∧
  ∀ (p : Addr) (ts : List (Addr × Nat × Nat)) (H' : Hp), Same H H' → H p = none → Cpls H H' p ts → ts.map (·.2) = (cplTo kss.length kss.length).filter (fun c => !decide (tieN kss c.2 c.1 = tieN lss c.2 c.1)) → Q (.ref p) H'
theorem ok_unlikeC {f : Addr} {fd : FuncData} (F : Fun K "couples_unlike" "couples_unlike" sUnlikeC f fd) (T : Bi mg) (I : Im mg) : FnOk P w K mg base CX0 1 f fd ["one", "other"] spUnlikeC := by
  refine F.ok scUnlikeC (fun vs H Q E h => ?_) (fun cdv A outer s H vs Q E hr h => ?_)
  · obtain ⟨c, d, rs, ps, kss, lss, k, rfl, _⟩ := h
    rfl
  · obtain ⟨m, m2, rs, ps, kss, lss, k, rfl, t, u, fk, fl, n100, el, q⟩ := h
    refine ⟨_, pss_one (ps_ret (pe_lc (own := [("low", 2), ("high", 3)]) (g := gTup K 2 (gCons (gName 2) (gCons (gName 3) gNil))) (tt := tTest (tOp rNe (tOp (rIxL K) (tOp (rIxL K) (tVar 0) (tVar 3)) (tVar 2)) (tOp (rIxL K) (tOp (rIxL K) (tVar 1) (tVar 3)) (tVar 2)))) (te := tTup (tCons (tVar 2) (tCons (tVar 3) tNil))) rfl scUnlikeC.nd
        (Cmb.pi_comb (by rfl) I (pa_cons (pe_callTy Cmb.cr_range1 (by rfl) T.range (by decide +kernel) (pa_cons (pe_callB call_len_seq (by rfl) T.len PySem.boot_len (pa_cons (pv 0) pa_nil)) pa_nil)) (pa_cons pe_int pa_nil)))
        (blkOk_by (N := nUnlikeC) (sc := defScope sUnlikeC) (by decide +kernel)) (fun _ _ _ _ _ => pg_tup rfl (pgs_cons (pg_name (i := 2) scUnlikeC.nd rfl (Or.inl rfl)) (pgs_cons (pg_name (i := 3) scUnlikeC.nd rfl (Or.inl rfl)) pgs_nil)))
        (fun _ _ _ _ _ => by exact (pts_one (pt_cmpR op_ne (pe_ix ix_list (pe_ix ix_list (pv 0) (pv 3) (fun _ _ => rfl)) (pv 2) (fun _ _ => rfl)) (pe_ix ix_list (pe_ix ix_list (pv 1) (pv 3) (fun _ _ => rfl)) (pv 2) (fun _ _ => rfl)) (nomark _)))) (fun _ _ _ _ _ => by exact (pe_tup (pa_cons (pv 2) (pa_cons (pv 3) pa_nil)))))), ?_⟩
    obtain ⟨n, hn⟩ : ∃ n, kss.length = n := ⟨_, rfl⟩
    have lp : (rs.map V.ref).length = n := by rw [List.length_map, t.len, hn]
    refine ⟨_, rfl, m, _, rfl, .inl (SqL.of t.top), _, rfl, fun rg hrg => ?_⟩
    rw [lp]
    obtain ⟨H1, e1, s1, f1⟩ := gen H hrg (.rng 0 (n : Int))
    rw [e1]
    clear e1
    rw [hn] at n100 q
    refine ⟨rg, n, 2, rfl, f1, by omega, by decide, fun D hD => ?_⟩
    have hD0 : H D = none := s1.free hD
    have cl : (Cmb.choices n 2).length = (cplTo n n).length := by rw [choices_pairs, List.length_map]
    have big : (cplTo n n).length ≤ 10000 := Nat.le_trans (cpl_len n n) (Nat.mul_le_mul n100 n100)
    refine lc_it (Cmb.walk_comb (n := n) (r := 2)) (fun i H' => Same H1 H' ∧ ∃ ts, Cpls H H' D ts ∧ ts.map (·.2) = ((cplTo n n).take i).filter (fun c => !decide (tieN kss c.2 c.1 = tieN lss c.2 c.1)))
      ⟨same_new hD, [], ⟨upd_same, by simp, by simp⟩, rfl⟩ (fun _ _ _ _ => trivial) ?_ ?_
    · rintro i y H2 H3 hi ⟨s2, ts, R, e2⟩ ⟨T2, l, rfl, nT, el, rfl⟩
      rw [choices_pairs, List.getElem?_map] at el
      cases ec : (cplTo n n)[i]? with
      | none =>
        rw [ec] at el
        cases el
      | some c =>
        rw [ec] at el
        cases el
        obtain ⟨w1, w2, w3⟩ := (cpl_mem n n c.1 c.2).mp (List.mem_of_getElem? ec)
        have eT : Cmb.natT [c.1, c.2] = pairT c := rfl
        rw [eT]
        obtain ⟨H4, e4, s4, f4⟩ := gen H2 nT (.tup (pairT c))
        rw [e4]
        clear e4
        have s24 := s2.trans s4
        have s04 := s1.trans s24
        refine ⟨T2, pairT c, rfl, SqT.of f4, rfl, _, _, rfl, _, _, rfl, rfl, rfl, ?_⟩
        obtain ⟨r1, k1, x1, x2, x3⟩ := (t.same s04).entry fk w2 (by omega)
        obtain ⟨r2, k2, y1, y2, y3⟩ := (u.same s04).entry fl w2 (by omega)
        refine ⟨_, rfl, _, rfl, m, _, _, _, rfl, rfl, SqL.of (t.same s04).top, x1, _, rfl, r1, _, _, _, rfl, rfl, SqL.of x2, x3, _, rfl, _, rfl, m2, _, _, _, rfl, rfl, SqL.of (u.same s04).top, y1, _, rfl, r2, _, _, _, rfl, rfl, SqL.of y2, y3, rfl, _, rfl, ?_⟩
        obtain ⟨H5, eH⟩ : ∃ H5, H4 = H5 := ⟨_, rfl⟩
        rw [eH] at s4
        rw [eH]
        have s25 := s4
        have eb : (!decide (V.int (tieN kss c.2 c.1) = V.int (tieN lss c.2 c.1))) = !decide (tieN kss c.2 c.1 = tieN lss c.2 c.1) := by
          by_cases q : tieN kss c.2 c.1 = tieN lss c.2 c.1
          · simp [q]
          · simp [q]
        rw [eb]
        cases ha : (!decide (tieN kss c.2 c.1 = tieN lss c.2 c.1)) with
        | false =>
          refine iteF ⟨s2.trans s25, ts, R.same s25, ?_⟩
          rw [cpl_take ec, ha, if_neg (by decide), List.append_nil]
          exact e2
        | true =>
          refine iteT ⟨_, rfl, _, rfl, (by show 2 ≤ sizeLine; decide), fun p hp => ?_⟩
          obtain ⟨H6, e6, s6, f6⟩ := gen H5 hp (.tup [.int (c.1 : Nat), .int (c.2 : Nat)])
          rw [e6]
          clear e6
          have s26 := s25.trans s6
          have hp2 : H2 p = none := s25.free hp
          refine ⟨_, s26 _ _ R.top, ?_, fun b o e' => ?_, ts ++ [(p, c)], R.push s26 hp2 (s1.free (s2.free hp2)) f6, ?_⟩
          · have lt : ts.length ≤ (cplTo n n).length := by
              have := congrArg List.length e2
              rw [List.length_map] at this
              rw [this]
              exact Nat.le_trans (List.length_filter_le _ _) (by rw [List.length_take]; omega)
            rw [List.length_map, sizeLine_eq]
            omega
          · rw [upd_ne (ne_of_none e' hD)]
            exact s26 b o (s2 b o e')
          · rw [List.map_append, e2, cpl_take ec, ha]
            rfl
    · rintro H2 ⟨s2, ts, R, e2⟩
      rw [cl, List.take_length] at e2
      exact q D ts H2 (s1.trans s2) hD0 R e2
abbrev nAmongC : List Str := ["company", "lot", "place", "person", "before"]
theorem scAmongC : FnScope nAmongC ["company", "lot"] (defScope sAmongC) := ⟨rfl, rfl, rfl, by decide +kernel, rfl, by decide +kernel, by decide +kernel⟩
def spAmongC : Sp := fun vs H Q _ => ∃ (c o : Addr) (rs : List Addr) (kss : List (List Int)) (k : Int) (l : List Nat), vs = [.ref c, .ref o] ∧ Tab H c rs kss ∧ Fine k kss ∧ kss.length ≤ 100 ∧ H o = some (.lst (natV l)) ∧ Lot kss.length l ∧
  ∀ (p : Addr) (ps : List Addr) (H' : Hp), Same H H' → Tab H' p ps (namedK kss l) → p ∉ ps → H p = none → (∀ r ∈ ps, H r = none) → Q (.ref p) H'
theorem ok_amongC {f : Addr} {fd : FuncData} (F : Fun K "company_among" "company_among" sAmongC f fd) (T : Bi mg) : FnOk P w K mg base CX0 1 f fd ["company", "lot"] spAmongC := by
  refine F.ok scAmongC (fun vs H Q E h => ?_) (fun cdv A outer s H vs Q E hr h => ?_)
  · obtain ⟨c, o, rs, kss, k, l, rfl, _⟩ := h
    rfl
  · obtain ⟨c, o, rs, kss, k, os, rfl, t, fine, n100, ho, lot, q⟩ := h
    refine ⟨_, pss_one (ps_ret (pe_lc (own := [("place", 2), ("person", 3)]) (g := gTup K 2 (gCons (gName 2) (gCons (gName 3) gNil))) (tt := tYes) (te := tLc (iList K (tSl (rSlL K) (tVar 1) tNoPart (tPart (tVar 2)))) (gName 4) tYes (tOp (rIxL K) (tOp (rIxL K) (tVar 0) (tVar 3)) (tVar 4)) [4]) rfl scAmongC.nd (pi_enum (by rfl) T.enumerate (pa_cons (pv 1) pa_nil))
        (blkOk_by (N := nAmongC) (sc := defScope sAmongC) (by decide +kernel)) (fun _ _ _ _ _ => pg_tup rfl (pgs_cons (pg_name (i := 2) scAmongC.nd rfl (Or.inl rfl)) (pgs_cons (pg_name (i := 3) scAmongC.nd rfl (Or.inr rfl)) pgs_nil)))
        (fun _ _ _ _ _ => pts_nil)
        (fun _ _ _ _ _ => by exact (pe_lc (own := [("before", 4)]) (g := gName 4) (tt := tYes) rfl scAmongC.nd (pi_list (pe_slice sl_list (pv 1) po_none (po_some (pv 2))))
          (blkOk_by (N := nAmongC) (sc := relS (compScope (exprOf (stmtIn (defBody sAmongC) 0))) (defScope sAmongC)) (by decide +kernel)) (fun _ _ _ _ _ => pg_name (i := 4) scAmongC.nd rfl (Or.inl rfl))
          (fun _ _ _ _ _ => pts_nil) (fun _ _ _ _ _ => by exact (pe_ix ix_list (pe_ix ix_list (pv 0) (pv 3) (fun _ _ => rfl)) (pv 4) (fun _ _ => rfl))))))), ?_⟩
    have nd := nodup_up lot.up
    have bd := lot.low
    have len := lot.len
    refine ⟨_, rfl, o, natV os, rfl, SqL.of ho, fun D hD => ?_⟩
    have lo : (natV os).length = os.length := List.length_map _
    refine lc_it (walk_enum (K := K) (a := o) (xs := natV os)) (fun i H5 => Same H H5 ∧ ∃ rs, Tab H5 D rs ((List.range i).map (rowN kss os)) ∧ D ∉ rs ∧ ∀ r ∈ rs, H r = none) ⟨same_new hD, [], ⟨upd_same, rfl, fun i r ks h => by simp at h, List.nodup_nil⟩, by simp, by simp⟩ (fun i H5 _ z => (z.1).seq (SqL.of ho)) ?_ ?_
    · rintro i y H5 H6 hi ⟨s1, rs', u, nD, nR⟩ ⟨A2, x1, x2, rfl, nA, rfl, e1, e2⟩
      have e1' : x1 = .int (i : Nat) := (Option.some.inj e1).symm
      subst e1'
      rw [lo] at hi
      have e2' : x2 = .int (os[i] : Nat) := by
        have e3 : (natV os)[i]? = some x2 := e2
        unfold natV at e3
        rw [List.getElem?_map, List.getElem?_eq_getElem hi] at e3
        exact (Option.some.inj e3).symm
      subst e2'
      have s2 := s1.trans (same_new (o := .tup [.int (i : Nat), .int (os[i] : Nat)]) nA)
      refine ⟨A2, [.int (i : Nat), .int (os[i] : Nat)], rfl, SqT.of upd_same, rfl, _, _, rfl, _, _, rfl, rfl, rfl, yes_of ?_⟩
      refine ⟨_, rfl, _, rfl, _, rfl, o, _, rfl, SqL.of (s2 _ _ ho), fun C hC => ?_⟩
      rw [cut_to (by rw [lo]; omega)]
      have s3 := s2.trans (same_new (o := .lst ((natV os).take i)) hC)
      refine ⟨_, rfl, ⟨_, SqL.of upd_same⟩, fun D2 hD2 => ?_⟩
      refine lc_list (K := K) (a := C) (xs := (natV os).take i) (fun j H7 => Same (upd (upd H5 A2 (.tup [.int (i : Nat), .int (os[i] : Nat)])) C (.lst ((natV os).take i))) H7 ∧ H7 D2 = some (.lst (((List.range j).map fun j => tieN kss (os.getD i 0) (os.getD j 0)).map V.int)))
        ⟨same_new hD2, upd_same⟩ (fun j H7 _ z => (z.1).seq (SqL.of upd_same)) ?_ ?_
      · rintro j y H7 hj ⟨s5, h5⟩
        have hji : j < i := by
          have := (List.getElem?_eq_some_iff.mp hj).1
          rw [List.length_take] at this
          omega
        have hjl : j < os.length := by omega
        have ey : y = .int (os[j] : Nat) := by
          rw [List.getElem?_take_of_lt hji] at hj
          unfold natV at hj
          rw [List.getElem?_map, List.getElem?_eq_getElem hjl] at hj
          exact (Option.some.inj hj).symm
        subst ey
        have b1 : os[i] < kss.length := bd _ (List.getElem_mem _)
        have b2 : os[j] < kss.length := bd _ (List.getElem_mem _)
        have ne : os[i] ≠ os[j] := fun z => by
          have := (List.getElem_inj nd).mp z
          omega
        have s35 := s3.trans s5
        have gi : os.getD i 0 = os[i] := by rw [List.getD_eq_getElem?_getD, List.getElem?_eq_getElem hi]; rfl
        have gj : os.getD j 0 = os[j] := by rw [List.getD_eq_getElem?_getD, List.getElem?_eq_getElem hjl]; rfl
        have last : ∃ acc, H7 D2 = some (.lst acc) ∧ acc.length < sizeLine ∧ Same (upd (upd H5 A2 (.tup [.int (i : Nat), .int (os[i] : Nat)])) C (.lst ((natV os).take i))) (upd H7 D2 (.lst (acc ++ [V.int (tieN kss os[i] os[j])]))) ∧
            (upd H7 D2 (.lst (acc ++ [V.int (tieN kss os[i] os[j])]))) D2 = some (.lst (((List.range (j + 1)).map fun j => tieN kss (os.getD i 0) (os.getD j 0)).map V.int)) := by
          refine ⟨_, h5, ?_, fun b o' zz => ?_, ?_⟩
          · rw [List.length_map, List.length_map, List.length_range]
            exact small1000 (by omega)
          · have nb : b ≠ D2 := ne_of_none zz hD2
            rw [upd_ne nb]
            exact s5 b o' zz
          · rw [upd_same, List.range_succ, List.map_append, List.map_append]
            show _ = some (HO.lst (_ ++ [V.int (tieN kss (os.getD i 0) (os.getD j 0))]))
            rw [gi, gj]
        refine ⟨rfl, yes_of ?_⟩
        have lt : os[j] < os[i] := List.pairwise_iff_getElem.mp lot.up j i hjl hi hji
        obtain ⟨r1, k1, x1, x2, x3⟩ := (t.same s35).entry fine lt b1
        exact ⟨_, rfl, _, rfl, c, _, _, _, rfl, rfl, SqL.of (t.same s35).top, x1, _, rfl, r1, _, _, _, rfl, rfl, SqL.of x2, x3, last⟩
      · rintro H7 ⟨s5, h5⟩
        have l6 : ((natV os).take i).length = i := by
          rw [List.length_take, lo]
          omega
        rw [l6] at h5
        have nA' : ∀ b o', H5 b = some o' → H7 b = some o' := fun b o' e => s5 b o' ((same_new hC) b o' ((same_new nA) b o' e))
        have hp : H5 D2 = none := (same_new nA).free ((same_new hC).free hD2)
        refine ⟨rs'.map V.ref, nA' _ _ u.top, ?_, fun b o' e => ?_, ?_⟩
        · rw [List.length_map, u.len, List.length_map, List.length_range]
          exact small1000 (by omega)
        · rw [upd_ne (ne_of_none e hD)]
          exact nA' b o' (s1 b o' e)
        · obtain ⟨t2, n2⟩ := u.push nD (fun r _ o' e => nA' r o' e) (ks := rowN kss os i) hp h5
          refine ⟨_, ?_, n2, fun r hr => ?_⟩
          · rw [List.range_succ, List.map_append]
            exact t2
          · rcases List.mem_append.mp hr with hr | hr
            · exact nR r hr
            · rw [List.mem_singleton] at hr
              subst hr
              exact s1.free hp
    · rintro H5 ⟨s1, rs', u, nD, nR⟩
      rw [lo] at u
      exact q D rs' H5 s1 u nD hD nR
theorem scTieP : FnScope ["kinds", "company", "couple", "one", "other"] ["kinds", "company", "couple"] (defScope sTieP) := ⟨rfl, rfl, rfl, by decide +kernel, rfl, by decide +kernel, by decide +kernel⟩
theorem scStand : FnScope ["kinds", "company", "couple", "one", "other"] ["kinds", "company", "couple"] (defScope sStand) := ⟨rfl, rfl, rfl, by decide +kernel, rfl, by decide +kernel, by decide +kernel⟩
/-- what a function of a company and a couple is handed -/
structure AskC (H : Hp) (vs : List V) (kss : List (List Int)) (p : Nat × Nat) : Prop where
  ex : ∃ (k : Int) (c t : Addr) (rs : List Addr), vs = [.int k, .ref c, .ref t] ∧ 2 ≤ k ∧ k ≤ 9 ∧ Tab H c rs kss ∧ Fine k kss ∧ H t = some (.tup (pairT p))
  one : 1 ≤ kss.length
  most : kss.length ≤ 40
  lt : p.1 < p.2
  low : p.2 < kss.length
def spTieP : Sp := fun vs H Q _ => ∃ (kss : List (List Int)) (p : Nat × Nat), AskC H vs kss p ∧ ∀ H', Same H H' → Q (.int (tieN kss p.2 p.1)) H'
def spStand : Sp := fun vs H Q _ => ∃ (kss : List (List Int)) (p : Nat × Nat), AskC H vs kss p ∧ ∀ H', Same H H' → Q (.bl (alikeB kss p.1 p.2)) H'
theorem ok_tieP {f : Addr} {fd : FuncData} (F : Fun K "tie" "tie" sTieP f fd) (UC : Use P w K mg base "check_company" ["kinds", "company"] (spCheckC K) 5) (UP : Use P w K mg base "check_couple" ["company", "couple"] spCheckCp 4) : FnOk P w K mg base CX0 6 f fd ["kinds", "company", "couple"] spTieP := by
  refine F.ok scTieP (fun vs H Q E h => ?_) (fun cdv A outer s H vs Q E hr h => ?_)
  · obtain ⟨kss, p, a, _⟩ := h
    obtain ⟨k, c, t, rs, rfl, _⟩ := a.ex
    rfl
  · obtain ⟨kss, p, a, q⟩ := h
    obtain ⟨k, c, tp, rs, rfl, k2, k9, t, fine, ht⟩ := a.ex
    refine ⟨_, pss_cons (ps_expr (pe_use UC hr (by rfl) (pa_cons (pv 0) (pa_cons (pv 1) pa_nil)))) (pss_cons (ps_expr (pe_use UP (hr.mono (by decide)) (by rfl) (pa_cons (pv 1) (pa_cons (pv 2) pa_nil))))
      (pss_cons (ps_asg (pv 2) (pg_tup rfl (pgs_cons (pg_name (i := 3) scTieP.nd rfl (Or.inl rfl)) (pgs_cons (pg_name (i := 4) scTieP.nd rfl (Or.inl rfl)) pgs_nil))))
      (pss_one (ps_ret (pe_ix ix_list (pe_ix ix_list (pv 1) (pv 4) (fun _ _ => rfl)) (pv 3) (fun _ _ => rfl)))))), ?_⟩
    refine ⟨_, rfl, _, rfl, k, .ref c, tabP kss, rfl, k2, k9, t.dt, fine.comp a.one a.most, fun H1 s1 => ?_⟩
    have t1 := t.same s1
    refine ⟨_, rfl, _, rfl, c, tp, rs.map V.ref, p, rfl, t1.top, s1 _ _ ht, a.lt, by rw [List.length_map, t.len]; exact a.low, ?_⟩
    obtain ⟨r1, k1, x1, x2, x3⟩ := t1.entry fine a.lt a.low
    refine ⟨_, rfl, tp, pairT p, rfl, SqT.of (s1 _ _ ht), rfl, _, _, rfl, _, _, rfl, rfl, ?_⟩
    exact ⟨_, rfl, _, rfl, c, _, _, _, rfl, rfl, SqL.of t1.top, x1, _, rfl, r1, _, _, _, rfl, rfl, SqL.of x2, x3, q _ s1⟩
theorem ok_stand {f : Addr} {fd : FuncData} (F : Fun K "stand_alike" "stand_alike" sStand f fd) (UC : Use P w K mg base "check_company" ["kinds", "company"] (spCheckC K) 5) (UP : Use P w K mg base "check_couple" ["company", "couple"] spCheckCp 4)
    (UT : Use P w K mg base "ties_of" ["company"] spTies 1) (UA : Use P w K mg base "are_alike" ["ties", "one", "other"] spAreAlike 1) : FnOk P w K mg base CX0 6 f fd ["kinds", "company", "couple"] spStand := by
  refine F.ok scStand (fun vs H Q E h => ?_) (fun cdv A outer s H vs Q E hr h => ?_)
  · obtain ⟨kss, p, a, _⟩ := h
    obtain ⟨k, c, t, rs, rfl, _⟩ := a.ex
    rfl
  · obtain ⟨kss, p, a, q⟩ := h
    obtain ⟨k, c, tp, rs, rfl, k2, k9, t, fine, ht⟩ := a.ex
    have hr1 : Room 1 (A.deeper (envOfC "stand_alike" (defScope sStand) s.heap.objs.size f cdv)) := hr.mono (by decide)
    refine ⟨_, pss_cons (ps_expr (pe_use UC hr (by rfl) (pa_cons (pv 0) (pa_cons (pv 1) pa_nil)))) (pss_cons (ps_expr (pe_use UP (hr.mono (by decide)) (by rfl) (pa_cons (pv 1) (pa_cons (pv 2) pa_nil))))
      (pss_cons (ps_asg (pv 2) (pg_tup rfl (pgs_cons (pg_name (i := 3) scStand.nd rfl (Or.inl rfl)) (pgs_cons (pg_name (i := 4) scStand.nd rfl (Or.inl rfl)) pgs_nil))))
      (pss_one (ps_ret (pe_use UA hr1 (by rfl) (pa_cons (pe_use UT hr1 (by rfl) (pa_cons (pv 1) pa_nil)) (pa_cons (pv 3) (pa_cons (pv 4) pa_nil)))))))), ?_⟩
    refine ⟨_, rfl, _, rfl, k, .ref c, tabP kss, rfl, k2, k9, t.dt, fine.comp a.one a.most, fun H1 s1 => ?_⟩
    have t1 := t.same s1
    have l100 : kss.length ≤ 100 := by have := a.most; omega
    refine ⟨_, rfl, _, rfl, c, tp, rs.map V.ref, p, rfl, t1.top, s1 _ _ ht, a.lt, by rw [List.length_map, t.len]; exact a.low, ?_⟩
    refine ⟨_, rfl, tp, pairT p, rfl, SqT.of (s1 _ _ ht), rfl, _, _, rfl, _, _, rfl, rfl, ?_⟩
    refine ⟨_, rfl, c, rs, kss, k, rfl, t1, fine, l100, fun m ps H2 s2 M => ?_⟩
    have := a.lt
    have := a.low
    exact ⟨_, rfl, _, rfl, m, ps, kss, p.1, p.2, rfl, M, l100, by omega, by omega, by omega, fun H3 s3 => q _ (s1.trans (s2.trans s3))⟩
theorem scAlikes : FnScope ["kinds", "company"] ["kinds", "company"] (defScope sAlikes) := ⟨rfl, rfl, rfl, by decide +kernel, rfl, by decide +kernel, by decide +kernel⟩
def spAlikes : Sp := fun vs H Q _ => ∃ (k : Int) (c : Addr) (rs : List Addr) (kss : List (List Int)), vs = [.int k, .ref c] ∧ 2 ≤ k ∧ k ≤ 9 ∧ Tab H c rs kss ∧ Fine k kss ∧ 1 ≤ kss.length ∧ kss.length ≤ 40 ∧
  ∀ (p : Addr) (ts : List (Addr × Nat × Nat)) (H' : Hp), Same H H' → H p = none → Cpls H H' p ts → ts.map (·.2) = (cplTo kss.length kss.length).filter (fun c => alikeB kss c.1 c.2) → Q (.ref p) H'
theorem Cpls.back {H0 H1 H : Hp} {a : Addr} {ts : List (Addr × Nat × Nat)} (r : Cpls H1 H a ts) (s : Same H0 H1) : Cpls H0 H a ts := ⟨r.top, r.row, fun t ht => s.free (r.new t ht)⟩
theorem ok_alikes {f : Addr} {fd : FuncData} (F : Fun K "alike_couples" "alike_couples" sAlikes f fd) (UC : Use P w K mg base "check_company" ["kinds", "company"] (spCheckC K) 5) (UT : Use P w K mg base "ties_of" ["company"] spTies 1) (UA : Use P w K mg base "couples_alike" ["ties"] spCplAlike 2) :
    FnOk P w K mg base CX0 6 f fd ["kinds", "company"] spAlikes := by
  refine F.ok scAlikes (fun vs H Q E h => ?_) (fun cdv A outer s H vs Q E hr h => ?_)
  · obtain ⟨k, c, rs, kss, rfl, _⟩ := h
    rfl
  · obtain ⟨k, c, rs, kss, rfl, k2, k9, t, fine, m1, m40, q⟩ := h
    refine ⟨_, pss_cons (ps_expr (pe_use UC hr (by rfl) (pa_cons (pv 0) (pa_cons (pv 1) pa_nil))))
      (pss_one (ps_ret (pe_use UA (hr.mono (by decide)) (by rfl) (pa_cons (pe_use UT (hr.mono (by decide)) (by rfl) (pa_cons (pv 1) pa_nil)) pa_nil)))), ?_⟩
    refine ⟨_, rfl, _, rfl, k, .ref c, tabP kss, rfl, k2, k9, t.dt, fine.comp m1 m40, fun H1 s1 => ?_⟩
    refine ⟨_, rfl, c, rs, kss, k, rfl, t.same s1, fine, by omega, fun m ps H2 s2 M => ?_⟩
    exact ⟨m, ps, kss, rfl, M, by omega, fun p ts H3 s3 hp R e => q p ts H3 (s1.trans (s2.trans s3)) ((s1.trans s2).free hp) (R.back (s1.trans s2)) e⟩
theorem scAmong : FnScope ["kinds", "company", "lot"] ["kinds", "company", "lot"] (defScope sAmong) := ⟨rfl, rfl, rfl, by decide +kernel, rfl, by decide +kernel, by decide +kernel⟩
def spAmong : Sp := fun vs H Q _ => ∃ (k : Int) (c o : Addr) (rs : List Addr) (kss : List (List Int)) (l : List Nat), vs = [.int k, .ref c, .ref o] ∧ 2 ≤ k ∧ k ≤ 9 ∧ Tab H c rs kss ∧ Fine k kss ∧ 1 ≤ kss.length ∧ kss.length ≤ 40 ∧ H o = some (.lst (natV l)) ∧ Lot kss.length l ∧
  ∀ (p : Addr) (ps : List Addr) (H' : Hp), Same H H' → Tab H' p ps (namedK kss l) → p ∉ ps → H p = none → (∀ r ∈ ps, H r = none) → Q (.ref p) H'
theorem ok_among {f : Addr} {fd : FuncData} (F : Fun K "among" "among" sAmong f fd) (UC : Use P w K mg base "check_company" ["kinds", "company"] (spCheckC K) 5) (UL : Use P w K mg base "check_lot" ["company", "lot"] spCheckL 4) (UA : Use P w K mg base "company_among" ["company", "lot"] spAmongC 1) :
    FnOk P w K mg base CX0 6 f fd ["kinds", "company", "lot"] spAmong := by
  refine F.ok scAmong (fun vs H Q E h => ?_) (fun cdv A outer s H vs Q E hr h => ?_)
  · obtain ⟨k, c, o, rs, kss, l, rfl, _⟩ := h
    rfl
  · obtain ⟨k, c, o, rs, kss, l, rfl, k2, k9, t, fine, m1, m40, ho, lot, q⟩ := h
    refine ⟨_, pss_cons (ps_expr (pe_use UC hr (by rfl) (pa_cons (pv 0) (pa_cons (pv 1) pa_nil)))) (pss_cons (ps_expr (pe_use UL (hr.mono (by decide)) (by rfl) (pa_cons (pv 1) (pa_cons (pv 2) pa_nil))))
      (pss_one (ps_ret (pe_use UA (hr.mono (by decide)) (by rfl) (pa_cons (pv 1) (pa_cons (pv 2) pa_nil)))))), ?_⟩
    refine ⟨_, rfl, _, rfl, k, .ref c, tabP kss, rfl, k2, k9, t.dt, fine.comp m1 m40, fun H1 s1 => ?_⟩
    refine ⟨_, rfl, _, rfl, c, o, rs.map V.ref, l, rfl, s1 _ _ t.top, by rw [List.length_map, t.len]; omega, s1 _ _ ho, by rw [List.length_map, t.len]; exact lot, fun H2 s2 => ?_⟩
    have s12 := s1.trans s2
    exact ⟨_, rfl, _, rfl, c, o, rs, kss, k, l, rfl, t.same s12, fine, by omega, s12 _ _ ho, lot, fun p ps H3 s3 u np hp hn => q p ps H3 (s12.trans s3) u np (s12.free hp) fun r hr => s12.free (hn r hr)⟩
theorem scDiffer : FnScope ["kinds", "one", "other"] ["kinds", "one", "other"] (defScope sDiffer) := ⟨rfl, rfl, rfl, by decide +kernel, rfl, by decide +kernel, by decide +kernel⟩
def spDiffer : Sp := fun vs H Q _ => ∃ (k : Int) (c d : Addr) (rs ps : List Addr) (kss lss : List (List Int)), vs = [.int k, .ref c, .ref d] ∧ 2 ≤ k ∧ k ≤ 9 ∧ Tab H c rs kss ∧ Tab H d ps lss ∧ Fine k kss ∧ Fine k lss ∧ 1 ≤ kss.length ∧ kss.length ≤ 40 ∧ lss.length = kss.length ∧
  ∀ (p : Addr) (ts : List (Addr × Nat × Nat)) (H' : Hp), Same H H' → H p = none → Cpls H H' p ts → ts.map (·.2) = (cplTo kss.length kss.length).filter (fun c => !decide (tieN kss c.2 c.1 = tieN lss c.2 c.1)) → Q (.ref p) H'
theorem ok_differ {f : Addr} {fd : FuncData} (F : Fun K "differing" "differing" sDiffer f fd) (UC : Use P w K mg base "check_companies" ["kinds", "one", "other"] spCheckCs 6) (UA : Use P w K mg base "couples_unlike" ["one", "other"] spUnlikeC 1) :
    FnOk P w K mg base CX0 7 f fd ["kinds", "one", "other"] spDiffer := by
  refine F.ok scDiffer (fun vs H Q E h => ?_) (fun cdv A outer s H vs Q E hr h => ?_)
  · obtain ⟨k, c, d, rs, ps, kss, lss, rfl, _⟩ := h
    rfl
  · obtain ⟨k, c, d, rs, ps, kss, lss, rfl, k2, k9, t, u, fk, fl, m1, m40, el, q⟩ := h
    refine ⟨_, pss_cons (ps_expr (pe_use UC hr (by rfl) (pa_cons (pv 0) (pa_cons (pv 1) (pa_cons (pv 2) pa_nil)))))
      (pss_one (ps_ret (pe_use UA (hr.mono (by decide)) (by rfl) (pa_cons (pv 1) (pa_cons (pv 2) pa_nil))))), ?_⟩
    refine ⟨_, rfl, _, rfl, _, rfl, k, c, d, rs, ps, kss, lss, rfl, k2, k9, t, u, fk, fl, m1, m40, el, fun H1 s1 => ?_⟩
    exact ⟨_, rfl, _, rfl, c, d, rs, ps, kss, lss, k, rfl, t.same s1, u.same s1, fk, fl, by omega, el, fun p ts H3 s3 hp R e => q p ts H3 (s1.trans s3) (s1.free hp) (R.back s1) e⟩
abbrev nInOrder : List Str := ["company", "order", "ties", "place", "person", "before"]
theorem scInOrder : FnScope nInOrder ["company", "order"] (defScope sInOrder) := ⟨rfl, rfl, rfl, by decide +kernel, rfl, by decide +kernel, by decide +kernel⟩
def spInOrder : Sp := fun vs H Q _ => ∃ (c o : Addr) (rs : List Addr) (kss : List (List Int)) (k : Int) (os : List Nat), vs = [.ref c, .ref o] ∧ Tab H c rs kss ∧ Fine k kss ∧ 1 ≤ kss.length ∧ kss.length ≤ 100 ∧ H o = some (.lst (natV os)) ∧ os.Perm (List.range kss.length) ∧
  ∀ (p : Addr) (ps : List Addr) (H' : Hp), Same H H' → Tab H' p ps (namedK kss os) → p ∉ ps → H p = none → (∀ r ∈ ps, H r = none) → Q (.ref p) H'
theorem ok_inOrder {f : Addr} {fd : FuncData} (F : Fun K "company_in_order" "company_in_order" sInOrder f fd) (T : Bi mg) (UT : Use P w K mg base "ties_of" ["company"] spTies 1) : FnOk P w K mg base CX0 2 f fd ["company", "order"] spInOrder := by
  refine F.ok scInOrder (fun vs H Q E h => ?_) (fun cdv A outer s H vs Q E hr h => ?_)
  · obtain ⟨c, o, rs, kss, k, os, rfl, _⟩ := h
    rfl
  · obtain ⟨c, o, rs, kss, k, os, rfl, t, fine, m1, m40, ho, pm, q⟩ := h
    refine ⟨_, 
      (pss_cons (ps_set (i := 2) scInOrder.nd rfl (Or.inr rfl) (pe_use UT hr (by rfl) (pa_cons (pv 0) pa_nil)))
      (pss_one (ps_ret (pe_lc (own := [("place", 3), ("person", 4)]) (g := gTup K 2 (gCons (gName 3) (gCons (gName 4) gNil))) (tt := tYes) (te := tLc (iList K (tSl (rSlL K) (tVar 1) tNoPart (tPart (tVar 3)))) (gName 5) tYes (tOp (rIxL K) (tOp (rIxL K) (tVar 2) (tVar 4)) (tVar 5)) [5]) rfl scInOrder.nd (pi_enum (by rfl) T.enumerate (pa_cons (pv 1) pa_nil))
        (blkOk_by (N := nInOrder) (sc := defScope sInOrder) (by decide +kernel)) (fun _ _ _ _ _ => pg_tup rfl (pgs_cons (pg_name (i := 3) scInOrder.nd rfl (Or.inl rfl)) (pgs_cons (pg_name (i := 4) scInOrder.nd rfl (Or.inr rfl)) pgs_nil)))
        (fun _ _ _ _ _ => pts_nil)
        (fun _ _ _ _ _ => by exact (pe_lc (own := [("before", 5)]) (g := gName 5) (tt := tYes) rfl scInOrder.nd (pi_list (pe_slice sl_list (pv 1) po_none (po_some (pv 3))))
          (blkOk_by (N := nInOrder) (sc := relS (compScope (exprOf (stmtIn (defBody sInOrder) 1))) (defScope sInOrder)) (by decide +kernel)) (fun _ _ _ _ _ => pg_name (i := 5) scInOrder.nd rfl (Or.inl rfl))
          (fun _ _ _ _ _ => pts_nil) (fun _ _ _ _ _ => by exact (pe_ix ix_list (pe_ix ix_list (pv 2) (pv 4) (fun _ _ => rfl)) (pv 5) (fun _ _ => rfl))))))))), ?_⟩
    refine ⟨_, rfl, c, rs, kss, k, rfl, t, fine, by omega, fun m ms Hc sc M => ?_⟩
    have s0 := sc
    have hc := s0 _ _ ho
    have nd : os.Nodup := pm.nodup_iff.mpr List.nodup_range
    have bd : ∀ j ∈ os, j < kss.length := fun j hj => List.mem_range.mp (pm.mem_iff.mp hj)
    have len : 1 ≤ os.length ∧ os.length ≤ kss.length := by rw [pm.length_eq, List.length_range]; omega
    refine ⟨_, rfl, o, natV os, rfl, SqL.of hc, fun D hD => ?_⟩
    have lo : (natV os).length = os.length := List.length_map _
    refine lc_it (walk_enum (K := K) (a := o) (xs := natV os)) (fun i H5 => Same Hc H5 ∧ ∃ rs, Tab H5 D rs ((List.range i).map (rowN kss os)) ∧ D ∉ rs ∧ ∀ r ∈ rs, Hc r = none) ⟨same_new hD, [], ⟨upd_same, rfl, fun i r ks h => by simp at h, List.nodup_nil⟩, by simp, by simp⟩ (fun i H5 _ z => (z.1).seq (SqL.of hc)) ?_ ?_
    · rintro i y H5 H6 hi ⟨s1, rs', u, nD, nR⟩ ⟨A2, x1, x2, rfl, nA, rfl, e1, e2⟩
      have e1' : x1 = .int (i : Nat) := (Option.some.inj e1).symm
      subst e1'
      rw [lo] at hi
      have e2' : x2 = .int (os[i] : Nat) := by
        have e3 : (natV os)[i]? = some x2 := e2
        unfold natV at e3
        rw [List.getElem?_map, List.getElem?_eq_getElem hi] at e3
        exact (Option.some.inj e3).symm
      subst e2'
      have s2 := s1.trans (same_new (o := .tup [.int (i : Nat), .int (os[i] : Nat)]) nA)
      refine ⟨A2, [.int (i : Nat), .int (os[i] : Nat)], rfl, SqT.of upd_same, rfl, _, _, rfl, _, _, rfl, rfl, rfl, yes_of ?_⟩
      refine ⟨_, rfl, _, rfl, _, rfl, o, _, rfl, SqL.of (s2 _ _ hc), fun C hC => ?_⟩
      rw [cut_to (by rw [lo]; omega)]
      have s3 := s2.trans (same_new (o := .lst ((natV os).take i)) hC)
      refine ⟨_, rfl, ⟨_, SqL.of upd_same⟩, fun D2 hD2 => ?_⟩
      refine lc_list (K := K) (a := C) (xs := (natV os).take i) (fun j H7 => Same (upd (upd H5 A2 (.tup [.int (i : Nat), .int (os[i] : Nat)])) C (.lst ((natV os).take i))) H7 ∧ H7 D2 = some (.lst (((List.range j).map fun j => tieN kss (os.getD i 0) (os.getD j 0)).map V.int)))
        ⟨same_new hD2, upd_same⟩ (fun j H7 _ z => (z.1).seq (SqL.of upd_same)) ?_ ?_
      · rintro j y H7 hj ⟨s5, h5⟩
        have hji : j < i := by
          have := (List.getElem?_eq_some_iff.mp hj).1
          rw [List.length_take] at this
          omega
        have hjl : j < os.length := by omega
        have ey : y = .int (os[j] : Nat) := by
          rw [List.getElem?_take_of_lt hji] at hj
          unfold natV at hj
          rw [List.getElem?_map, List.getElem?_eq_getElem hjl] at hj
          exact (Option.some.inj hj).symm
        subst ey
        have b1 : os[i] < kss.length := bd _ (List.getElem_mem _)
        have b2 : os[j] < kss.length := bd _ (List.getElem_mem _)
        have ne : os[i] ≠ os[j] := fun z => by
          have := (List.getElem_inj nd).mp z
          omega
        have s35 := s3.trans s5
        have gi : os.getD i 0 = os[i] := by rw [List.getD_eq_getElem?_getD, List.getElem?_eq_getElem hi]; rfl
        have gj : os.getD j 0 = os[j] := by rw [List.getD_eq_getElem?_getD, List.getElem?_eq_getElem hjl]; rfl
        have last : ∃ acc, H7 D2 = some (.lst acc) ∧ acc.length < sizeLine ∧ Same (upd (upd H5 A2 (.tup [.int (i : Nat), .int (os[i] : Nat)])) C (.lst ((natV os).take i))) (upd H7 D2 (.lst (acc ++ [V.int (tieN kss os[i] os[j])]))) ∧
            (upd H7 D2 (.lst (acc ++ [V.int (tieN kss os[i] os[j])]))) D2 = some (.lst (((List.range (j + 1)).map fun j => tieN kss (os.getD i 0) (os.getD j 0)).map V.int)) := by
          refine ⟨_, h5, ?_, fun b o' zz => ?_, ?_⟩
          · rw [List.length_map, List.length_map, List.length_range]
            exact small1000 (by omega)
          · have nb : b ≠ D2 := ne_of_none zz hD2
            rw [upd_ne nb]
            exact s5 b o' zz
          · rw [upd_same, List.range_succ, List.map_append, List.map_append]
            show _ = some (HO.lst (_ ++ [V.int (tieN kss (os.getD i 0) (os.getD j 0))]))
            rw [gi, gj]
        refine ⟨rfl, yes_of ?_⟩
        obtain ⟨r1, x1, x2⟩ := (M.same s35).at b1
        have at2 : atI ((List.range kss.length).map (tyV kss os[i])) ((os[j] : Nat) : Int) = some (.int (tieN kss os[i] os[j])) := by
          refine atI_nat ?_
          rw [List.getElem?_map, List.getElem?_range b2]
          show some (tyV kss os[i] os[j]) = _
          unfold tyV
          rw [if_neg ne]
        exact ⟨_, rfl, _, rfl, m, _, _, _, rfl, rfl, SqL.of (M.same s35).top, atI_nat (v := V.ref r1) (by rw [List.getElem?_map, x1]; rfl), _, rfl, r1, _, _, _, rfl, rfl, SqL.of x2, at2, last⟩
      · rintro H7 ⟨s5, h5⟩
        have l6 : ((natV os).take i).length = i := by
          rw [List.length_take, lo]
          omega
        rw [l6] at h5
        have nA' : ∀ b o', H5 b = some o' → H7 b = some o' := fun b o' e => s5 b o' ((same_new hC) b o' ((same_new nA) b o' e))
        have hp : H5 D2 = none := (same_new nA).free ((same_new hC).free hD2)
        refine ⟨rs'.map V.ref, nA' _ _ u.top, ?_, fun b o' e => ?_, ?_⟩
        · rw [List.length_map, u.len, List.length_map, List.length_range]
          exact small1000 (by omega)
        · rw [upd_ne (ne_of_none e hD)]
          exact nA' b o' (s1 b o' e)
        · obtain ⟨t2, n2⟩ := u.push nD (fun r _ o' e => nA' r o' e) (ks := rowN kss os i) hp h5
          refine ⟨_, ?_, n2, fun r hr => ?_⟩
          · rw [List.range_succ, List.map_append]
            exact t2
          · rcases List.mem_append.mp hr with hr | hr
            · exact nR r hr
            · rw [List.mem_singleton] at hr
              subst hr
              exact s1.free hp
    · rintro H5 ⟨s1, rs', u, nD, nR⟩
      rw [lo] at u
      exact q D rs' H5 (s0.trans s1) u nD (s0.free hD) fun r hr => s0.free (nR r hr)
abbrev nRenamed : List Str := ["kinds", "company", "order"]
theorem scRenamed : FnScope nRenamed ["kinds", "company", "order"] (defScope sRenamed) := ⟨rfl, rfl, rfl, by decide +kernel, rfl, by decide +kernel, by decide +kernel⟩
def spRenamed : Sp := fun vs H Q _ => ∃ (k : Int) (c o : Addr) (rs : List Addr) (kss : List (List Int)) (os : List Nat), vs = [.int k, .ref c, .ref o] ∧ 2 ≤ k ∧ k ≤ 9 ∧ Tab H c rs kss ∧ Fine k kss ∧ 1 ≤ kss.length ∧ kss.length ≤ 40 ∧ H o = some (.lst (natV os)) ∧ os.Perm (List.range kss.length) ∧
  ∀ (p : Addr) (ps : List Addr) (H' : Hp), Same H H' → Tab H' p ps (namedK kss os) → p ∉ ps → H p = none → (∀ r ∈ ps, H r = none) → Q (.ref p) H'
theorem ok_renamed {f : Addr} {fd : FuncData} (F : Fun K "renamed" "renamed" sRenamed f fd) (T : Bi mg) (UC : Use P w K mg base "check_company" ["kinds", "company"] (spCheckC K) 5) (UO : Use P w K mg base "is_order" ["many", "value"] spOrderB 3) (UI : Use P w K mg base "company_in_order" ["company", "order"] spInOrder 2) : FnOk P w K mg base CX0 6 f fd ["kinds", "company", "order"] spRenamed := by
  refine F.ok scRenamed (fun vs H Q E h => ?_) (fun cdv A outer s H vs Q E hr h => ?_)
  · obtain ⟨k, c, o, rs, kss, os, rfl, _⟩ := h
    rfl
  · obtain ⟨k, c, o, rs, kss, os, rfl, k2, k9, t, fine, m1, m40, ho, pm, q⟩ := h
    refine ⟨_, pss_cons (ps_expr (pe_use UC hr (by rfl) (pa_cons (pv 0) (pa_cons (pv 1) pa_nil))))
      (pss_cons (ps_if (pt_not (pt_val (pe_use UO (hr.mono (by decide)) (by rfl) (pa_cons (pe_callB call_len_seq (by rfl) T.len PySem.boot_len (pa_cons (pv 1) pa_nil)) (pa_cons (pv 2) pa_nil))))) (pss_one ps_never) pss_nil)
      (pss_one (ps_ret (pe_use UI (hr.mono (by decide)) (by rfl) (pa_cons (pv 1) (pa_cons (pv 2) pa_nil)))))), ?_⟩
    refine ⟨_, rfl, _, rfl, k, .ref c, tabP kss, rfl, k2, k9, t.dt, fine.comp m1 m40, fun Ha sa => ?_⟩
    have lr : (rs.map V.ref).length = kss.length := by rw [List.length_map, t.len]
    refine ⟨_, rfl, c, _, rfl, .inl (SqL.of (sa _ _ t.top)), _, rfl, ?_⟩
    rw [lr]
    refine ⟨kss.length, o, os, rfl, by omega, sa _ _ ho, pm, fun Hb sb => ⟨_, rfl, iteF ?_⟩⟩
    have sab := sa.trans sb
    exact ⟨_, rfl, _, rfl, c, o, rs, kss, k, os, rfl, t.same sab, fine, m1, by omega, sab _ _ ho, pm, fun p ps H3 s3 u np hp hn => q p ps H3 (sab.trans s3) u np (sab.free hp) fun r hr => sab.free (hn r hr)⟩
end
end K2

namespace K2
open PySem PySem.Spec PyProof.Rows L2 GL
abbrev sYes : Stmt := topS 43
abbrev sAlike2 : Stmt := topS 45
abbrev sCouples : Stmt := topS 46
abbrev sNamed : Stmt := topS 47
abbrev sOrder : Stmt := topS 48
abbrev sCompany : Stmt := topS 49
def CI (H : Hp) (g f : Addr) (k : Int) (m n i : Nat) (σ : L2.St) (H' : Hp) : Prop := ∃ (pv wv ov kv rv : Option V), σ = [some (.ref g), some (.int k), some (.int m), pv, some (.ref f), wv, ov, kv, rv, none] ∧ But g H H' ∧ Gen H' g (n + 19000 - 15 * i) ∧
  ∃ rs kss, Tab H' f rs kss ∧ kss.length = i + 1 ∧ Fine k kss ∧ f ∉ rs ∧ H f = none ∧ ∀ r ∈ rs, H r = none
theorem CI.next {H H' H3 : Hp} {g f p : Addr} {k : Int} {m n i nn n' : Nat} {rs : List Addr} {kss : List (List Int)} {ks : List Int} {pv wv ov kv rv : Option V} (G0 : Gen H g nn) (bt : But g H H') (G' : Gen H' g n') (t : Tab H' f rs kss) (lk : kss.length = i + 1) (fine : Fine k kss) (nf : f ∉ rs)
    (hf : H f = none) (nR : ∀ r ∈ rs, H r = none) (b3 : But g H' H3) (G3 : Gen H3 g (n + 19000 - 15 * (i + 1))) (hp : H' p = none) (h3 : H3 p = some (.lst (ks.map V.int))) (lks : ks.length = i + 1) (bk : ∀ z ∈ ks, 0 ≤ z ∧ z < k) :
    H3 f = some (.lst (rs.map V.ref)) ∧ CI H g f k m n (i + 1) [some (.ref g), some (.int k), some (.int m), pv, some (.ref f), wv, ov, kv, rv, none] (upd H3 f (.lst (rs.map V.ref ++ [V.ref p]))) := by
  have gf : g ≠ f := G0.ne hf
  have gr : g ∉ rs := notin_new G0 nR
  obtain ⟨t2, n2⟩ := t.push nf (H4 := H3) (fun r hr o e => b3 r o e (fun z => gr (by rw [← z]; exact hr))) hp h3
  refine ⟨b3 _ _ t.top gf.symm, pv, wv, ov, kv, rv, rfl, ?_, G3.other gf.symm, _, _, t2, by rw [List.length_append, lk]; rfl, fine.push (by omega) bk, n2, hf, ?_⟩
  · intro b o e nb
    rw [upd_ne (ne_of_none e hf)]
    exact b3 b o (bt b o e nb) nb
  · intro r hr
    rcases List.mem_append.mp hr with hr | hr
    · exact nR r hr
    · rw [List.mem_singleton] at hr
      subst hr
      exact but_free bt G' hp
section
variable {P : Program} {w : World} {K : PySem.W.Frag} {mg : Str → Option Value} {base : Heap}
theorem scYes : FnScope ["_law_told", "_law_due"] ["_law_told", "_law_due"] (defScope sYes) := ⟨rfl, rfl, rfl, by decide +kernel, rfl, by decide +kernel, by decide +kernel⟩
def spYes : Sp := fun vs H Q _ => ∃ b : Bool, vs = [.bl b, .bl b] ∧ Q (.bl true) H
theorem ok_yes {f : Addr} {fd : FuncData} (F : Fun K "_law_yes" "_law_yes" sYes f fd) (T : Bi mg) : FnOk P w K mg base CX0 1 f fd ["_law_told", "_law_due"] spYes := by
  refine F.ok scYes (fun vs H Q E h => ?_) (fun cdv A outer s H vs Q E hr h => ?_)
  · obtain ⟨b, rfl, _⟩ := h
    rfl
  · obtain ⟨b, rfl, q⟩ := h
    refine ⟨_, pss_one (ps_ret (pe_and (pe_callB call_isi (by rfl) T.isinstance (by decide +kernel) (pa_cons (pv 0) (pa_cons (pe_bltn (v := .ty "bool") (by rfl) T.bool (by decide +kernel) rfl) pa_nil))) (pe_one (pe_cmpR op_eq (pv 0) (pv 1) (nomark _))))), ?_⟩
    refine ⟨_, rfl, _, _, _, _, _, rfl, .ty "bool", (Dt.bl (K := K) b).ty, kit_bool (.bool b), _, rfl, iteT ⟨_, rfl, _, rfl, rfl, ?_⟩⟩
    show Q (V.bl (decide (V.bl b = V.bl b))) H
    rw [decide_eq_true rfl]
    exact q
abbrev nAlike2 : List Str := ["_law_company_here", "_law_one", "_law_other", "_law_person"]
theorem scAlike2 : FnScope nAlike2 ["_law_company_here", "_law_one", "_law_other"] (defScope sAlike2) := ⟨rfl, rfl, rfl, by decide +kernel, rfl, by decide +kernel, by decide +kernel⟩
def spAlike2 : Sp := fun vs H Q _ => ∃ (c : Addr) (rs : List Addr) (kss : List (List Int)) (k : Int) (a b : Nat), vs = [.ref c, .int a, .int b] ∧ Tab H c rs kss ∧ Fine k kss ∧ kss.length ≤ 100 ∧ a < kss.length ∧ b < kss.length ∧ Q (.bl (alikeB kss a b)) H
theorem ok_alike2 {f : Addr} {fd : FuncData} (F : Fun K "_law_alike" "_law_alike" sAlike2 f fd) (T : Bi mg) (UT : Use P w K mg base "_law_tie" ["_law_company_here", "_law_one", "_law_other"] spTie 1) : FnOk P w K mg base CX0 2 f fd ["_law_company_here", "_law_one", "_law_other"] spAlike2 := by
  refine F.ok scAlike2 (fun vs H Q E h => ?_) (fun cdv A outer s H vs Q E hr h => ?_)
  · obtain ⟨c, rs, kss, k, a, b, rfl, _⟩ := h
    rfl
  · obtain ⟨c, rs, kss, k, a, b, rfl, t, fine, n100, al, bl, q⟩ := h
    refine ⟨_, pss_cons (ps_for PassesOwn.never rfl (pi_range1 (by rfl) T.range (pa_cons (pe_callB call_len_seq (by rfl) T.len PySem.boot_len (pa_cons (pv 0) pa_nil)) pa_nil)) (pg_name (i := 3) scAlike2.nd rfl (Or.inl rfl))
        (pss_one (ps_if (PW.pt (pw_and (pt_cmpR op_ne (pv 3) (pv 1) (nomark _)) (pw_and (pt_cmpR op_ne (pv 3) (pv 2) (nomark _)) (pw_and1 (pt_cmpR op_ne (pe_use UT hr (by rfl) (pa_cons (pv 0) (pa_cons (pv 3) (pa_cons (pv 1) pa_nil)))) (pe_use UT hr (by rfl) (pa_cons (pv 0) (pa_cons (pv 3) (pa_cons (pv 2) pa_nil)))) (nomark _))))))
          (pss_one (ps_ret pe_bl)) pss_nil)))
      (pss_one (ps_ret pe_bl)), ?_⟩
    have lr : (rs.map V.ref).length = kss.length := by rw [List.length_map, t.len]
    refine ⟨_, rfl, c, _, rfl, .inl (SqL.of t.top), _, rfl, by omega, by omega, ?_⟩
    rw [lr]
    refine for_range (lo := 0) (n := (kss.length : Int).toNat) (fun i σ H' => ∃ m : Option V, σ = [some (.ref c), some (.int a), some (.int b), m] ∧ H' = H ∧ ∀ j, j < i → (j == a || j == b || decide (tieN kss j a = tieN kss j b)) = true)
      ⟨none, rfl, rfl, fun j hj => absurd hj (Nat.not_lt_zero j)⟩ ?_ ?_
    · rintro i σ H' hi ⟨m, rfl, rfl, yes⟩
      have il : i < kss.length := by omega
      have i0 : (0 + (i : Int)) = (i : Int) := Int.zero_add _
      have next : (i == a || i == b || decide (tieN kss i a = tieN kss i b)) = true → ∃ m : Option V, [some (V.ref c), some (.int a), some (.int b), some (.int (0 + (i : Int)))] = [some (.ref c), some (.int a), some (.int b), m] ∧ H' = H' ∧ ∀ j, j < i + 1 → (j == a || j == b || decide (tieN kss j a = tieN kss j b)) = true := fun z =>
        ⟨_, rfl, rfl, fun p hp => by
          by_cases c : p = i
          · subst c
            exact z
          · exact yes p (by omega)⟩
      have dn : ∀ x : Nat, decide (V.int (0 + (i : Int)) = V.int (x : Nat)) = (i == x) := fun x => by
        rw [i0]
        by_cases c : i = x
        · subst c; simp
        · have : ¬ ((i : Nat) : Int) = (x : Nat) := by omega
          simp [c, this]
      refine ⟨_, rfl, _, rfl, rfl, _, rfl, ?_⟩
      rw [dn]
      by_cases ia : i = a
      · have e : (i == a) = true := by simpa using ia
        rw [e]
        exact iteF (iteF (next (by rw [ia]; simp)))
      · have eA : (i == a) = false := by simpa using ia
        rw [eA]
        refine iteT ⟨_, rfl, _, rfl, rfl, _, rfl, ?_⟩
        rw [dn]
        by_cases ib : i = b
        · have e : (i == b) = true := by simpa using ib
          rw [e]
          exact iteF (iteF (next (by rw [ib]; simp)))
        · have eB : (i == b) = false := by simpa using ib
          rw [eB]
          refine iteT ⟨_, rfl, _, rfl, _, rfl, c, rs, kss, k, i, a, (show [V.ref c, V.int (0 + (i : Int)), V.int (a : Int)] = [V.ref c, V.int (i : Int), V.int (a : Int)] by rw [i0]), t, fine, il, al, ia, ?_⟩
          refine ⟨_, rfl, _, rfl, _, rfl, c, rs, kss, k, i, b, (show [V.ref c, V.int (0 + (i : Int)), V.int (b : Int)] = [V.ref c, V.int (i : Int), V.int (b : Int)] by rw [i0]), t, fine, il, bl, ib, rfl, _, rfl, ?_⟩
          by_cases c3 : tieN kss i a = tieN kss i b
          · refine iteNS (by rw [c3]) ?_
            exact next (by rw [c3]; simp)
          · have ef : alikeB kss a b = false := by
              cases h : alikeB kss a b with
              | false => rfl
              | true =>
                have := List.all_eq_true.mp h i (List.mem_range.mpr il)
                rw [eA, eB] at this
                simp [c3] at this
            rw [ef] at q
            exact ite2 (fun _ => q) (fun z => (z (by simp [c3])).elim)
    · rintro σ H' ⟨m, rfl, rfl, yes⟩
      have ea : alikeB kss a b = true := List.all_eq_true.mpr fun j hj => yes j (by have := List.mem_range.mp hj; omega)
      rw [ea] at q
      exact q
abbrev nCouples : List Str := ["_law_many", "_law_found", "_law_one", "_law_other"]
theorem scCouples : FnScope nCouples ["_law_many"] (defScope sCouples) := ⟨rfl, rfl, rfl, by decide +kernel, rfl, by decide +kernel, by decide +kernel⟩
def spCouples : Sp := fun vs H Q _ => ∃ n : Nat, vs = [.int n] ∧ n ≤ 100 ∧ ∀ (p : Addr) (ts : List (Addr × Nat × Nat)) (H' : Hp), Same H H' → H p = none → Cpls H H' p ts → ts.map (·.2) = cplTo n n → Q (.ref p) H'
theorem ok_couples {f : Addr} {fd : FuncData} (F : Fun K "_law_couples" "_law_couples" sCouples f fd) (T : Bi mg) : FnOk P w K mg base CX0 1 f fd ["_law_many"] spCouples := by
  refine F.ok scCouples (fun vs H Q E h => ?_) (fun cdv A outer s H vs Q E hr h => ?_)
  · obtain ⟨n, rfl, _⟩ := h
    rfl
  · obtain ⟨n, rfl, n100, q⟩ := h
    refine ⟨_, pss_cons (ps_set (i := 1) scCouples.nd rfl (Or.inl rfl) (pe_lst pa_nil))
      (pss_cons (ps_for PassesOwn.never rfl (pi_range1 (by rfl) T.range (pa_cons (pv 0) pa_nil)) (pg_name (i := 2) scCouples.nd rfl (Or.inr rfl))
        (pss_one (ps_set (i := 1) scCouples.nd rfl (Or.inl rfl) (pe_op op_cat (pv 1) (pe_lc (own := [("_law_other", 3)]) (g := gName 3) (tt := tYes) rfl scCouples.nd (pi_range2 (by rfl) T.range (pa_cons (pe_op op_add (pv 2) pe_int) (pa_cons (pv 0) pa_nil))) (blkOk_by (N := nCouples) (sc := defScope sCouples) (by decide +kernel))
          (fun _ _ _ _ _ => pg_name (i := 3) scCouples.nd rfl (Or.inl rfl)) (fun _ _ _ _ _ => pts_nil) (fun _ _ _ _ _ => by exact (pe_tup (pa_cons (pv 2) (pa_cons (pv 3) pa_nil)))))))))
      (pss_one (ps_ret (pv 1)))), ?_⟩
    refine ⟨Nat.zero_le _, fun f0 hf0 => ?_⟩
    have big : ∀ m, m ≤ 100 → m * n ≤ 10000 := fun m hm => Nat.mul_le_mul hm n100
    have szl : ∀ x, x ≤ 10200 → x < sizeLine := fun x hx => by rw [sizeLine_eq]; omega
    refine ⟨_, rfl, _, rfl, by omega, by omega, ?_⟩
    refine for_range (lo := 0) (n := (n : Int).toNat) (fun i σ H' => ∃ (a : Addr) (ts : List (Addr × Nat × Nat)) (pv : Option V), σ = [some (.int n), some (.ref a), pv, none] ∧ Same H H' ∧ H a = none ∧ Cpls H H' a ts ∧ ts.map (·.2) = cplTo n i)
      ⟨f0, [], none, rfl, same_new hf0, hf0, ⟨upd_same, by simp, by simp⟩, rfl⟩ ?_ ?_
    · rintro i σ H' hi ⟨a, ts, pv0, rfl, s1, ha, R, e1⟩
      have lts : ts.length ≤ i * n := by
        have := congrArg List.length e1
        rw [List.length_map] at this
        rw [this]
        exact cpl_len n i
      have b1 := big i (by omega)
      refine ⟨_, rfl, _, rfl, _, _, rfl, rfl, _, rfl, _, _, rfl, ⟨by omega, by omega, by omega, by omega⟩, fun D hD => ?_⟩
      have kn : ((n : Int) - (0 + (i : Int) + 1)).toNat = n - (i + 1) := by omega
      refine lc_it (walk_range (lo := 0 + (i : Int) + 1) (n := ((n : Int) - (0 + (i : Int) + 1)).toNat)) (fun j H5 => Same H' H5 ∧ ∃ us, Cpls H' H5 D us ∧ us.map (·.2) = (List.range j).map fun j => (i, i + 1 + j))
        ⟨same_new hD, [], ⟨upd_same, by simp, by simp⟩, rfl⟩ (fun _ _ _ _ => trivial) ?_ ?_
      · rintro j y H5 H6 hj ⟨s5, us, R5, e5⟩ ⟨rfl, rfl⟩
        refine ⟨rfl, yes_of ?_⟩
        refine ⟨_, rfl, _, rfl, (by show 2 ≤ sizeLine; decide), fun p hp => ?_⟩
        have ev : ([V.int (0 + (i : Int)), V.int (0 + (i : Int) + 1 + (j : Int))] : List V) = [V.int (i : Nat), V.int ((i + 1 + j : Nat) : Int)] := by
          rw [show (0 + (i : Int)) = (i : Int) by omega, show ((i : Int) + 1 + (j : Int)) = ((i + 1 + j : Nat) : Int) by omega]
        rw [ev]
        obtain ⟨H7, e7, s7, f7⟩ := gen H6 hp (.tup [V.int (i : Nat), V.int ((i + 1 + j : Nat) : Int)])
        rw [e7]
        clear e7
        have Dp : D ≠ p := ne_of_none R5.top hp
        refine ⟨_, s7 _ _ R5.top, ?_, fun b o e' => ?_, us ++ [(p, i, i + 1 + j)], ⟨?_, ?_, ?_⟩, ?_⟩
        · have lu : us.length = j := by
            have := congrArg List.length e5
            rw [List.length_map, List.length_map, List.length_range] at this
            exact this
          rw [List.length_map]
          exact small1000 (by omega)
        · rw [upd_ne (ne_of_none e' hD)]
          exact s7 b o (s5 b o e')
        · rw [upd_same, List.map_append]
          rfl
        · intro u hu
          rcases List.mem_append.mp hu with hu | hu
          · have h0 := R5.row u hu
            have uD : u.1 ≠ D := ne_of h0 R5.top (by intro z; cases z)
            rw [upd_ne uD]
            exact s7 _ _ h0
          · rw [List.mem_singleton] at hu
            subst hu
            show upd H7 D _ p = _
            rw [upd_ne Dp.symm]
            exact f7
        · intro u hu
          rcases List.mem_append.mp hu with hu | hu
          · exact R5.new u hu
          · rw [List.mem_singleton] at hu
            subst hu
            exact s5.free hp
        · rw [List.map_append, e5, List.range_succ, List.map_append]
          rfl
      · rintro H5 ⟨s5, us, R5, e5⟩
        rw [kn] at e5
        have lus : us.length ≤ n := by
          have := congrArg List.length e5
          rw [List.length_map, List.length_map, List.length_range] at this
          omega
        refine ⟨a, D, _, _, rfl, rfl, s5 _ _ R.top, R5.top, ?_, fun p hp => ?_⟩
        · rw [List.length_map, List.length_map]
          exact Nat.le_of_lt (szl _ (by omega))
        · obtain ⟨H6, e6, s6, f6⟩ := gen H5 hp (.lst ((ts.map fun t => V.ref t.1) ++ (us.map fun t => V.ref t.1)))
          rw [e6]
          clear e6
          refine ⟨p, ts ++ us, _, rfl, s1.trans (s5.trans s6), s1.free (s5.free hp), ⟨?_, ?_, ?_⟩, ?_⟩
          · rw [f6, List.map_append]
          · intro t ht
            rcases List.mem_append.mp ht with ht | ht
            · exact s6 _ _ (s5 _ _ (R.row t ht))
            · exact s6 _ _ (R5.row t ht)
          · intro t ht
            rcases List.mem_append.mp ht with ht | ht
            · exact R.new t ht
            · exact s1.free (R5.new t ht)
          · rw [List.map_append, e1, e5]
            rfl
    · rintro σ H' ⟨a, ts, pv0, rfl, s1, ha, R, e1⟩
      have nn : (n : Int).toNat = n := Int.toNat_natCast n
      rw [nn] at e1
      exact ⟨_, rfl, q a ts H' s1 ha R e1⟩
abbrev nNamed : List Str := ["_law_company_here", "_law_order_here", "_law_place", "_law_person", "_law_mate"]
theorem scNamed : FnScope nNamed ["_law_company_here", "_law_order_here"] (defScope sNamed) := ⟨rfl, rfl, rfl, by decide +kernel, rfl, by decide +kernel, by decide +kernel⟩
def spNamed : Sp := fun vs H Q _ => ∃ (c o : Addr) (rs : List Addr) (kss : List (List Int)) (k : Int) (os : List Nat), vs = [.ref c, .ref o] ∧ Tab H c rs kss ∧ Fine k kss ∧ H o = some (.lst (natV os)) ∧ os.Nodup ∧ (∀ j ∈ os, j < kss.length) ∧ os.length ≤ 100 ∧
  ∀ (p : Addr) (ps : List Addr) (H' : Hp), Same H H' → Tab H' p ps (namedK kss os) → p ∉ ps → H p = none → (∀ r ∈ ps, H r = none) → Q (.ref p) H'
theorem ok_named {f : Addr} {fd : FuncData} (F : Fun K "_law_named" "_law_named" sNamed f fd) (T : Bi mg) (U : Use P w K mg base "_law_tie" ["_law_company_here", "_law_one", "_law_other"] spTie 1) : FnOk P w K mg base CX0 2 f fd ["_law_company_here", "_law_order_here"] spNamed := by
  refine F.ok scNamed (fun vs H Q E h => ?_) (fun cdv A outer s H vs Q E hr h => ?_)
  · obtain ⟨c, o, rs, kss, k, os, rfl, _⟩ := h
    rfl
  · obtain ⟨c, o, rs, kss, k, os, rfl, t, fine, ho, nd, bd, len, q⟩ := h
    refine ⟨_, pss_one (ps_ret (pe_lc (own := [("_law_place", 2), ("_law_person", 3)]) (g := gTup K 2 (gCons (gName 2) (gCons (gName 3) gNil))) (tt := tYes) (te := tLc (iList K (tSl (rSlL K) (tVar 1) tNoPart (tPart (tVar 2)))) (gName 4) tYes (tCall spTie [] E0 (tCons (tVar 0) (tCons (tVar 3) (tCons (tVar 4) tNil)))) [4]) rfl scNamed.nd (pi_enum (by rfl) T.enumerate (pa_cons (pv 1) pa_nil))
        (blkOk_by (N := nNamed) (sc := defScope sNamed) (by decide +kernel)) (fun _ _ _ _ _ => pg_tup rfl (pgs_cons (pg_name (i := 2) scNamed.nd rfl (Or.inl rfl)) (pgs_cons (pg_name (i := 3) scNamed.nd rfl (Or.inr rfl)) pgs_nil)))
        (fun _ _ _ _ _ => pts_nil)
        (fun _ _ _ _ _ => by exact (pe_lc (own := [("_law_mate", 4)]) (g := gName 4) (tt := tYes) rfl scNamed.nd (pi_list (pe_slice sl_list (pv 1) po_none (po_some (pv 2))))
          (blkOk_by (N := nNamed) (sc := relS (compScope (exprOf (stmtIn (defBody sNamed) 0))) (defScope sNamed)) (by decide +kernel)) (fun _ _ _ _ _ => pg_name (i := 4) scNamed.nd rfl (Or.inl rfl))
          (fun _ _ _ _ _ => pts_nil) (fun _ _ _ _ _ => pe_use U hr (by rfl) (pa_cons (pv 0) (pa_cons (pv 3) (pa_cons (pv 4) pa_nil)))))))), ?_⟩
    refine ⟨_, rfl, o, natV os, rfl, SqL.of ho, fun D hD => ?_⟩
    have lo : (natV os).length = os.length := List.length_map _
    refine lc_it (walk_enum (K := K) (a := o) (xs := natV os)) (fun i H5 => Same H H5 ∧ ∃ rs, Tab H5 D rs ((List.range i).map (rowN kss os)) ∧ D ∉ rs ∧ ∀ r ∈ rs, H r = none) ⟨same_new hD, [], ⟨upd_same, rfl, fun i r ks h => by simp at h, List.nodup_nil⟩, by simp, by simp⟩ (fun i H5 _ z => (z.1).seq (SqL.of ho)) ?_ ?_
    · rintro i y H5 H6 hi ⟨s1, rs', u, nD, nR⟩ ⟨A2, x1, x2, rfl, nA, rfl, e1, e2⟩
      have e1' : x1 = .int (i : Nat) := (Option.some.inj e1).symm
      subst e1'
      rw [lo] at hi
      have e2' : x2 = .int (os[i] : Nat) := by
        have e3 : (natV os)[i]? = some x2 := e2
        unfold natV at e3
        rw [List.getElem?_map, List.getElem?_eq_getElem hi] at e3
        exact (Option.some.inj e3).symm
      subst e2'
      have s2 := s1.trans (same_new (o := .tup [.int (i : Nat), .int (os[i] : Nat)]) nA)
      refine ⟨A2, [.int (i : Nat), .int (os[i] : Nat)], rfl, SqT.of upd_same, rfl, _, _, rfl, _, _, rfl, rfl, rfl, yes_of ?_⟩
      refine ⟨_, rfl, _, rfl, _, rfl, o, _, rfl, SqL.of (s2 _ _ ho), fun C hC => ?_⟩
      rw [cut_to (by rw [lo]; omega)]
      have s3 := s2.trans (same_new (o := .lst ((natV os).take i)) hC)
      refine ⟨_, rfl, ⟨_, SqL.of upd_same⟩, fun D2 hD2 => ?_⟩
      refine lc_list (K := K) (a := C) (xs := (natV os).take i) (fun j H7 => Same (upd (upd H5 A2 (.tup [.int (i : Nat), .int (os[i] : Nat)])) C (.lst ((natV os).take i))) H7 ∧ H7 D2 = some (.lst (((List.range j).map fun j => tieN kss (os.getD i 0) (os.getD j 0)).map V.int)))
        ⟨same_new hD2, upd_same⟩ (fun j H7 _ z => (z.1).seq (SqL.of upd_same)) ?_ ?_
      · rintro j y H7 hj ⟨s5, h5⟩
        have hji : j < i := by
          have := (List.getElem?_eq_some_iff.mp hj).1
          rw [List.length_take] at this
          omega
        have hjl : j < os.length := by omega
        have ey : y = .int (os[j] : Nat) := by
          rw [List.getElem?_take_of_lt hji] at hj
          unfold natV at hj
          rw [List.getElem?_map, List.getElem?_eq_getElem hjl] at hj
          exact (Option.some.inj hj).symm
        subst ey
        have b1 : os[i] < kss.length := bd _ (List.getElem_mem _)
        have b2 : os[j] < kss.length := bd _ (List.getElem_mem _)
        have ne : os[i] ≠ os[j] := fun z => by
          have := (List.getElem_inj nd).mp z
          omega
        have s35 := s3.trans s5
        have gi : os.getD i 0 = os[i] := by rw [List.getD_eq_getElem?_getD, List.getElem?_eq_getElem hi]; rfl
        have gj : os.getD j 0 = os[j] := by rw [List.getD_eq_getElem?_getD, List.getElem?_eq_getElem hjl]; rfl
        have last : ∃ acc, H7 D2 = some (.lst acc) ∧ acc.length < sizeLine ∧ Same (upd (upd H5 A2 (.tup [.int (i : Nat), .int (os[i] : Nat)])) C (.lst ((natV os).take i))) (upd H7 D2 (.lst (acc ++ [V.int (tieN kss os[i] os[j])]))) ∧
            (upd H7 D2 (.lst (acc ++ [V.int (tieN kss os[i] os[j])]))) D2 = some (.lst (((List.range (j + 1)).map fun j => tieN kss (os.getD i 0) (os.getD j 0)).map V.int)) := by
          refine ⟨_, h5, ?_, fun b o' zz => ?_, ?_⟩
          · rw [List.length_map, List.length_map, List.length_range]
            exact small1000 (by omega)
          · have nb : b ≠ D2 := ne_of_none zz hD2
            rw [upd_ne nb]
            exact s5 b o' zz
          · rw [upd_same, List.range_succ, List.map_append, List.map_append]
            show _ = some (HO.lst (_ ++ [V.int (tieN kss (os.getD i 0) (os.getD j 0))]))
            rw [gi, gj]
        refine ⟨rfl, yes_of ?_⟩
        exact ⟨_, rfl, _, rfl, _, rfl, c, rs, kss, k, os[i], os[j], rfl, t.same s35, fine, b1, b2, ne, last⟩
      · rintro H7 ⟨s5, h5⟩
        have l6 : ((natV os).take i).length = i := by
          rw [List.length_take, lo]
          omega
        rw [l6] at h5
        have nA' : ∀ b o', H5 b = some o' → H7 b = some o' := fun b o' e => s5 b o' ((same_new hC) b o' ((same_new nA) b o' e))
        have hp : H5 D2 = none := (same_new nA).free ((same_new hC).free hD2)
        refine ⟨rs'.map V.ref, nA' _ _ u.top, ?_, fun b o' e => ?_, ?_⟩
        · rw [List.length_map, u.len, List.length_map, List.length_range]
          exact small1000 (by omega)
        · rw [upd_ne (ne_of_none e hD)]
          exact nA' b o' (s1 b o' e)
        · obtain ⟨t2, n2⟩ := u.push nD (fun r _ o' e => nA' r o' e) (ks := rowN kss os i) hp h5
          refine ⟨_, ?_, n2, fun r hr => ?_⟩
          · rw [List.range_succ, List.map_append]
            exact t2
          · rcases List.mem_append.mp hr with hr | hr
            · exact nR r hr
            · rw [List.mem_singleton] at hr
              subst hr
              exact s1.free hp
    · rintro H5 ⟨s1, rs', u, nD, nR⟩
      rw [lo] at u
      exact q D rs' H5 s1 u nD hD nR
theorem scOrder : FnScope ["_law_generator_here", "_law_many", "_law_left", "_law_found", "_law_turn"] ["_law_generator_here", "_law_many"] (defScope sOrder) := ⟨rfl, rfl, rfl, by decide +kernel, rfl, by decide +kernel, by decide +kernel⟩
def spOrder : Sp := fun vs H Q _ => ∃ (g : Addr) (m n : Nat), vs = [.ref g, .int m] ∧ m ≤ 60 ∧ Gen H g (n + 5 * m) ∧
  ∀ (o : Addr) (H' : Hp) (os : List Nat), But g H H' → H o = none → Gen H' g n → H' o = some (.lst (natV os)) → os.Perm (List.range m) → Q (.ref o) H'
theorem ok_order {f : Addr} {fd : FuncData} (F : Fun K "_law_order" "_law_order" sOrder f fd) (T : Bi mg) (U : Use P w K mg base "_law_random" ["_law_generator_here", "_law_bound"] spRandom 2) : FnOk P w K mg base CX0 3 f fd ["_law_generator_here", "_law_many"] spOrder := by
  refine F.ok scOrder (fun vs H Q E h => ?_) (fun cdv A outer s H vs Q E hr h => ?_)
  · obtain ⟨g, m, n, rfl, _⟩ := h
    rfl
  · obtain ⟨g, m, n, rfl, hm, G, q⟩ := h
    refine ⟨_, pss_cons (ps_par (i := 2) (j := 3) rfl scOrder.nd rfl rfl (by decide) rfl rfl (pa_cons (pe_listRg rfl (by rfl) T.list (prg_1 (by rfl) T.range (pv 1))) (pa_cons (pe_lst pa_nil) pa_nil)) (by rfl))
      (pss_cons (ps_for PassesOwn.never rfl (pi_range1 (by rfl) T.range (pa_cons (pv 1) pa_nil)) (pg_name (i := 4) scOrder.nd rfl (Or.inl rfl))
        (pss_one (ps_expr (pe_bm PySem.F.plainAttrs_list PySem.F.slot_list_append PySem.F.type_list_append mt_append (pv 3) (pa_cons (pe_bm PySem.F.plainAttrs_list PySem.F.slot_list_pop PySem.F.type_list_pop mt_popAt (pv 2)
          (pa_cons (pe_use U hr (by rfl) (pa_cons (pv 0) (pa_cons (pe_callB call_len_seq (by rfl) T.len PySem.boot_len (pa_cons (pv 2) pa_nil)) pa_nil))) pa_nil)) pa_nil)))))
      (pss_one (ps_ret (pv 3)))), ?_⟩
    refine ⟨_, rfl, _, rfl, RgOk.of_le (by omega) (by omega) (by omega) (by omega), fun l hl => ⟨Nat.zero_le _, fun d hd => ⟨_, _, rfl, ?_⟩⟩⟩
    have ld : l ≠ d := fun z => by
      rw [← z, upd_same] at hd
      cases hd
    have hd0 : H d = none := (same_new hl).free hd
    have gl : g ≠ l := G.ne hl
    have gd : g ≠ d := G.ne hd0
    refine ⟨_, rfl, m, rfl, by omega, by omega, ?_⟩
    refine for_range (lo := 0) (n := (m : Int).toNat) (fun i σ H' => ∃ (L Fd : List Nat) (t : Option V), σ = [some (.ref g), some (.int m), some (.ref l), some (.ref d), t] ∧ But g H H' ∧ H' l = some (.lst (natV L)) ∧ H' d = some (.lst (natV Fd)) ∧
        (Fd ++ L).Perm (List.range m) ∧ Fd.length = i ∧ Gen H' g (n + 5 * (m - i)))
      ⟨List.range m, [], none, rfl, (But.new hl).trans (But.new hd), by rw [upd_ne ld, upd_same, rg_nat], upd_same, .refl _, rfl, (G.new hl).new hd⟩ ?_ ?_
    · rintro i σ H' hi ⟨L, Fd, t, rfl, bt, h1, h2, pm, lf, G'⟩
      have cnt : (Fd ++ L).length = m := by rw [pm.length_eq, List.length_range]
      rw [List.length_append] at cnt
      have him : i < m := by omega
      have lL : (natV L).length = L.length := List.length_map _
      have G2 : Gen H' g (n + 5 * (m - (i + 1)) + 5) := by
        rw [show n + 5 * (m - (i + 1)) + 5 = n + 5 * (m - i) by omega]
        exact G'
      refine ⟨_, rfl, .inl ⟨rfl, _, SqL.of h2⟩, _, rfl, .inl ⟨rfl, _, SqL.of h1⟩, _, rfl, _, rfl, l, natV L, rfl, .inl (SqL.of h1), g, (natV L).length, n + 5 * (m - (i + 1)), rfl, by omega, by omega, G2, ?_⟩
      intro r H2 r0 r1 G3 bt2
      have h1' := bt2 l _ h1 gl.symm
      have h2' := bt2 d _ h2 gd.symm
      have rk : r.toNat < L.length := by omega
      refine ⟨l, natV L, r, r.toNat, V.int (L[r.toNat] : Nat), rfl, rfl, h1', by omega, by omega, seq_in r0 r1, ?_, ?_⟩
      · unfold natV
        rw [List.getElem?_map, List.getElem?_eq_getElem rk]
        rfl
      · refine ⟨d, natV Fd, _, rfl, rfl, by rw [upd_ne ld.symm]; exact h2', ?_, ?_⟩
        · unfold natV
          rw [List.length_map]
          exact small1000 (by omega)
        · refine ⟨L.eraseIdx r.toNat, Fd ++ [L[r.toNat]], _, rfl, ?_, ?_, ?_, ?_, ?_, ?_⟩
          · intro b o e nb
            have e' := bt2 b o (bt b o e nb) nb
            rw [upd_ne (ne_of_none e hd0), upd_ne (ne_of_none e hl)]
            exact e'
          · rw [upd_ne ld, upd_same, erase_map]
          · rw [upd_same]
            unfold natV
            rw [List.map_append]
            rfl
          · refine List.Perm.trans ?_ pm
            rw [List.append_assoc]
            exact List.Perm.append_left _ (perm_erase (List.getElem?_eq_getElem rk))
          · rw [List.length_append, lf]
            rfl
          · exact (G3.other gl.symm).other gd.symm
    · rintro σ H' ⟨L, Fd, t, rfl, bt, h1, h2, pm, lf, G'⟩
      have cnt : (Fd ++ L).length = m := by rw [pm.length_eq, List.length_range]
      rw [List.length_append] at cnt
      have lf' : Fd.length = m := by omega
      have L0 : L = [] := List.length_eq_zero_iff.mp (by omega)
      subst L0
      rw [List.append_nil] at pm
      refine ⟨_, rfl, q d H' Fd bt hd0 (G'.less (by omega)) h2 pm⟩
abbrev nCompany : List Str := ["_law_generator_here", "_law_kinds", "_law_many", "_law_person", "_law_found", "_law_way", "_law_one", "_law_kind", "_law_row", "_law_mate"]
theorem scCompany : FnScope nCompany ["_law_generator_here", "_law_kinds", "_law_many"] (defScope sCompany) := ⟨rfl, rfl, rfl, by decide +kernel, rfl, by decide +kernel, by decide +kernel⟩
def spCompany : Sp := fun vs H Q _ => ∃ (g : Addr) (k : Int) (m n : Nat), vs = [.ref g, .int k, .int m] ∧ 2 ≤ k ∧ k ≤ 9 ∧ 1 ≤ m ∧ m ≤ 50 ∧ Gen H g (n + 20000) ∧ ∀ (p : Addr) (H' : Hp), But g H H' → Gen H' g n → CoN H H' k p m → Q (.ref p) H'
theorem ok_company {f : Addr} {fd : FuncData} (F : Fun K "_law_company" "_law_company" sCompany f fd) (T : Bi mg) (U : Use P w K mg base "_law_random" ["_law_generator_here", "_law_bound"] spRandom 2)
    (UT : Use P w K mg base "_law_tie" ["_law_company_here", "_law_one", "_law_other"] spTie 1) (UN : Use P w K mg base "_law_named" ["_law_company_here", "_law_order_here"] spNamed 2) (UO : Use P w K mg base "_law_order" ["_law_generator_here", "_law_many"] spOrder 3) :
    FnOk P w K mg base CX0 4 f fd ["_law_generator_here", "_law_kinds", "_law_many"] spCompany := by
  refine F.ok scCompany (fun vs H Q E h => ?_) (fun cdv A outer s H vs Q E hr h => ?_)
  · obtain ⟨g, k, m, n, rfl, _⟩ := h
    rfl
  · obtain ⟨g, k, m, n, rfl, k2, k9, m1, m50, G, q⟩ := h
    have hr2 : Room 2 (A.deeper (envOfC "_law_company" (defScope sCompany) s.heap.objs.size f cdv)) := hr.mono (by decide)
    have hr1 : Room 1 (A.deeper (envOfC "_law_company" (defScope sCompany) s.heap.objs.size f cdv)) := hr.mono (by decide)
    refine ⟨_, pss_cons (ps_if (pt_cmpR op_eq (pe_use U hr2 (by rfl) (pa_cons (pv 0) (pa_cons pe_int pa_nil))) pe_int (nomark _))
        (pss_one (ps_ret (pe_lc (own := [("_law_person", 3)]) (g := gName 3) (tt := tYes) (te := tLc (iRng1 (tCons (tVar 3) tNil)) (gName 9) tYes (tCall spRandom [] E0 (tCons (tVar 0) (tCons (tVar 1) tNil))) [9]) rfl scCompany.nd (pi_range1 (by rfl) T.range (pa_cons (pv 2) pa_nil))
          (blkOk_by (N := nCompany) (sc := defScope sCompany) (by decide +kernel)) (fun _ _ _ _ _ => pg_name (i := 3) scCompany.nd rfl (Or.inl rfl)) (fun _ _ _ _ _ => pts_nil)
          (fun _ _ _ _ _ => by exact (pe_lc (own := [("_law_mate", 9)]) (g := gName 9) (tt := tYes) rfl scCompany.nd (pi_range1 (by rfl) T.range (pa_cons (pv 3) pa_nil))
            (blkOk_by (N := nCompany) (sc := relS (compScope (exprOf (stmtIn (ifBody (stmtIn (defBody sCompany) 0)) 0))) (defScope sCompany)) (by decide +kernel)) (fun _ _ _ _ _ => pg_name (i := 9) scCompany.nd rfl (Or.inl rfl))
            (fun _ _ _ _ _ => pts_nil) (fun _ _ _ _ _ => pe_use U hr2 (by rfl) (pa_cons (pv 0) (pa_cons (pv 1) pa_nil))))))) ) pss_nil)
      (pss_cons (ps_set (i := 4) scCompany.nd rfl (Or.inr rfl) (pe_lst (pa_cons (pe_lst pa_nil) pa_nil)))
      (pss_cons (ps_for PassesOwn.never rfl (pi_range2 (by rfl) T.range (pa_cons pe_int (pa_cons (pv 2) pa_nil))) (pg_name (i := 3) scCompany.nd rfl (Or.inl rfl))
        (pss_cons (ps_asg (pe_tup (pa_cons (pe_use U hr2 (by rfl) (pa_cons (pv 0) (pa_cons pe_int pa_nil))) (pa_cons (pe_use U hr2 (by rfl) (pa_cons (pv 0) (pa_cons (pv 3) pa_nil))) (pa_cons (pe_use U hr2 (by rfl) (pa_cons (pv 0) (pa_cons (pv 1) pa_nil))) pa_nil))))
            (pg_tup rfl (pgs_cons (pg_name (i := 5) scCompany.nd rfl (Or.inl rfl)) (pgs_cons (pg_name (i := 6) scCompany.nd rfl (Or.inr rfl)) (pgs_cons (pg_name (i := 7) scCompany.nd rfl (Or.inr rfl)) pgs_nil)))))
        (pss_cons (ps_set (i := 8) scCompany.nd rfl (Or.inl rfl) (pe_op op_rep (pe_lst (pa_cons (pv 7) pa_nil)) (pv 3)))
        (pss_cons (ps_if (pt_cmpR op_gt (pv 5) pe_int (nomark _))
            (pss_one (ps_setLc (i := 8) (own := [("_law_mate", 9)]) (g := gName 9) (tt := tYes) rfl scCompany.nd rfl rfl (sw_true rfl rfl rfl (by decide +kernel)) (pi_range1 (by rfl) T.range (pa_cons (pv 3) pa_nil))
              (blkOk_by (N := nCompany) (sc := defScope sCompany) (by decide +kernel)) (fun _ _ _ _ _ => pg_name (i := 9) scCompany.nd rfl (Or.inl rfl)) (fun _ _ _ _ _ => pts_nil)
              (fun _ _ _ _ _ => pe_ifExp (pt_cmpR op_eq (pv 9) (pv 6) (nomark _)) (pv 7) (pe_use UT hr1 (by rfl) (pa_cons (pv 4) (pa_cons (pv 6) (pa_cons (pv 9) pa_nil))))))) pss_nil)
        (pss_one (ps_expr (pe_bm PySem.F.plainAttrs_list PySem.F.slot_list_append PySem.F.type_list_append mt_append (pv 4) (pa_cons (pv 8) pa_nil))))))))
      (pss_one (ps_ret (pe_use UN hr2 (by rfl) (pa_cons (pv 4) (pa_cons (pe_use UO hr (by rfl) (pa_cons (pv 0) (pa_cons (pv 2) pa_nil))) pa_nil))))))), ?_⟩
    refine ⟨_, rfl, g, 3, n + 19995, rfl, by decide, by decide, G, fun r H1 r0 r1 G1 b1 => ⟨rfl, _, rfl, ite2 (fun c => ?_) (fun c => ?_)⟩⟩
    · -- drawn ties
      refine ⟨_, rfl, m, rfl, by omega, by omega, fun D hD => ?_⟩
      have hD0 : H D = none := but_free b1 G1 hD
      have gD : D ≠ g := (G.ne hD0).symm
      refine lc_it (walk_range (lo := 0) (n := (m : Int).toNat)) (fun i H' => But g H H' ∧ Gen H' g (n + 19000 - 250 * i) ∧ ∃ rs kss, Tab H' D rs kss ∧ kss.length = i ∧ Fine k kss ∧ D ∉ rs ∧ ∀ r ∈ rs, H r = none)
        ⟨b1.trans (But.new hD), (G1.new hD).less (by omega), [], [], ⟨upd_same, rfl, fun i r ks h => by simp at h, List.nodup_nil⟩, rfl, Fine.nil, by simp, by simp⟩ (fun _ _ _ _ => trivial) ?_ ?_
      · rintro i y H' H'' hi ⟨bt, G', rs, kss, t, lk, fine, nD, nR⟩ ⟨rfl, rfl⟩
        have gr : g ∉ rs := notin_new G nR
        refine ⟨rfl, yes_of ?_⟩
        refine ⟨_, rfl, (0 + (i : Int)), rfl, by omega, by omega, fun D2 hD2 => ?_⟩
        have gD2 : D2 ≠ g := (G'.ne hD2).symm
        refine lc_it (walk_range (lo := 0) (n := (0 + (i : Int)).toNat)) (fun j H5 => But g H'' H5 ∧ Gen H5 g (n + 19000 - 250 * i - 5 * j) ∧ ∃ ks : List Int, H5 D2 = some (.lst (ks.map V.int)) ∧ ks.length = j ∧ ∀ z ∈ ks, 0 ≤ z ∧ z < k)
          ⟨But.new hD2, G'.new hD2, [], upd_same, rfl, by simp⟩ (fun _ _ _ _ => trivial) ?_ ?_
        · rintro j y H5 H6 hj ⟨b5, G5, ks, h5, l5, bb⟩ ⟨rfl, rfl⟩
          refine ⟨rfl, yes_of ?_⟩
          refine ⟨_, rfl, _, rfl, g, k, n + 19000 - 250 * i - 5 * (j + 1), rfl, by omega, by omega, G5.less (by omega), fun r2 H7 q0 q1 G7 b7 => ⟨_, b7 _ _ h5 gD2, ?_, ?_, G7.other gD2, ks ++ [r2], ?_, ?_, ?_⟩⟩
          · rw [List.length_map]
            exact small1000 (by omega)
          · intro b o e nb
            rw [upd_ne (ne_of_none e hD2)]
            exact b7 b o (b5 b o e nb) nb
          · rw [upd_same, List.map_append]
            rfl
          · rw [List.length_append, l5]
            rfl
          · intro z hz
            rcases List.mem_append.mp hz with hz | hz
            · exact bb z hz
            · rw [List.mem_singleton] at hz
              subst hz
              exact ⟨q0, by omega⟩
        · rintro H5 ⟨b5, G5, ks, h5, l5, bb⟩
          obtain ⟨t2, n2⟩ := t.push nD (H4 := H5) (fun r hr o e => b5 r o e fun z => gr (by rw [← z]; exact hr)) hD2 h5
          refine ⟨_, b5 _ _ t.top gD, ?_, ?_, (G5.less (by omega)).other gD, _, _, t2, ?_, fine.push (by omega) bb, n2, ?_⟩
          · rw [List.length_map, t.len]
            exact small1000 (by omega)
          · intro b o e nb
            rw [upd_ne (ne_of_none e hD0)]
            exact b5 b o (bt b o e nb) nb
          · rw [List.length_append, lk]
            rfl
          · intro r hr
            rcases List.mem_append.mp hr with hr | hr
            · exact nR r hr
            · rw [List.mem_singleton] at hr
              subst hr
              exact but_free bt G' hD2
      · rintro H' ⟨bt, G', rs, kss, t, lk, fine, nD, nR⟩
        exact q D H' bt (G'.less (by omega)) ⟨rs, kss, t, by omega, fine, nD, hD0, nR⟩
    · -- people put beside others
      refine ⟨Nat.zero_le _, fun l0 hl0 => ⟨(by show 1 ≤ sizeLine; decide), fun f0 hf0 => ?_⟩⟩
      have hl00 : H l0 = none := but_free b1 G1 hl0
      have hf1 : H1 f0 = none := (same_new hl0).free hf0
      have hf00 : H f0 = none := but_free b1 G1 hf1
      have lf : l0 ≠ f0 := fun z => by
        rw [← z, upd_same] at hf0
        cases hf0
      have gf : g ≠ f0 := G.ne hf00
      refine ⟨_, rfl, 1, m, rfl, ⟨by omega, by omega, by omega, by omega⟩, ?_⟩
      refine for_range (lo := 1) (n := ((m : Int) - 1).toNat) (CI H g f0 k m n) ⟨none, none, none, none, none, rfl, (b1.trans (But.new hl0)).trans (But.new hf0), ((G1.new hl0).new hf0).less (by omega), [l0], [[]], ⟨upd_same, rfl, ?_, by simp⟩, rfl, ?_, ?_, hf00, ?_⟩ ?_ ?_
      · intro i r ks h1 h2
        have i0 : i = 0 := by
          have := (List.getElem?_eq_some_iff.mp h1).1
          simp at this
          exact this
        subst i0
        cases h1
        cases h2
        rw [upd_ne lf, upd_same]
        rfl
      · intro i ks h
        have i0 : i = 0 := by
          have := (List.getElem?_eq_some_iff.mp h).1
          simp at this
          exact this
        subst i0
        cases h
        exact ⟨rfl, by simp⟩
      · rw [List.mem_singleton]
        exact lf.symm
      · intro r hr
        rw [List.mem_singleton] at hr
        subst hr
        exact hl00
      · rintro i σ H' hi ⟨pv0, wv, ov, kv, rv, rfl, bt, G', rs, kss, t, lk, fine, nf, _, nR⟩
        have gr : g ∉ rs := notin_new G nR
        refine ⟨_, rfl, g, 3, n + 19000 - 15 * i - 5, rfl, by decide, by decide, G'.less (by omega), fun wy Ha w0 w1 Ga ba => ?_⟩
        refine ⟨_, rfl, _, rfl, g, 1 + (i : Int), n + 19000 - 15 * i - 10, rfl, by omega, by omega, Ga.less (by omega), fun one Hb o0 o1 Gb bb => ?_⟩
        obtain ⟨u, rfl⟩ : ∃ u : Nat, one = (u : Int) := ⟨one.toNat, by omega⟩
        refine ⟨_, rfl, _, rfl, g, k, n + 19000 - 15 * i - 15, rfl, by omega, by omega, Gb.less (by omega), fun kd Hc kk0 kk1 Gc bc => ?_⟩
        refine ⟨(by show 3 ≤ sizeLine; decide), fun t3 ht3 => ?_⟩
        refine ⟨t3, _, rfl, SqT.of upd_same, rfl, _, _, rfl, _, _, rfl, _, _, rfl, rfl, ?_⟩
        refine ⟨_, rfl, (by show 1 ≤ sizeLine; decide), fun l hl => ⟨_, rfl, l, _, _, rfl, rfl, upd_same, by omega, by omega, ?_, fun p hp => ?_⟩⟩
        · have : ([V.int kd] : List V).length * (1 + (i : Int)).toNat ≤ 1000 := by
            show 1 * (1 + (i : Int)).toNat ≤ 1000
            omega
          exact Nat.le_of_lt (small1000 this)
        have bHc : But g H' Hc := (ba.trans bb).trans bc
        have hpc : Hc p = none := (same_new ht3).free ((same_new hl).free hp)
        have hpH : H' p = none := but_free bHc Gc hpc
        have b4 : But g H' (upd (upd (upd Hc t3 (.tup [V.int wy, V.int (u : Int), V.int kd])) l (.lst [V.int kd])) p (.lst (List.replicate (1 + (i : Int)).toNat [V.int kd]).flatten)) := bHc.trans ((But.new ht3).trans ((But.new hl).trans (But.new hp)))
        have G4 : Gen (upd (upd (upd Hc t3 (.tup [V.int wy, V.int (u : Int), V.int kd])) l (.lst [V.int kd])) p (.lst (List.replicate (1 + (i : Int)).toNat [V.int kd]).flatten)) g (n + 19000 - 15 * (i + 1)) := (((Gc.new ht3).new hl).new hp).less (by omega)
        have szf : (rs.map V.ref).length < sizeLine := by
          rw [List.length_map, t.len]
          exact small1000 (by omega)
        refine ⟨_, rfl, _, _, rfl, rfl, _, rfl, ite2 (fun cw => ?_) (fun cw => ?_)⟩
        · refine ⟨_, rfl, 1 + (i : Int), rfl, by omega, by omega, fun D2 hD2 => ?_⟩
          refine lc_it (walk_range (lo := 0) (n := (1 + (i : Int)).toNat)) (fun j H5 => Same (upd (upd (upd Hc t3 (.tup [V.int wy, V.int (u : Int), V.int kd])) l (.lst [V.int kd])) p (.lst (List.replicate (1 + (i : Int)).toNat [V.int kd]).flatten)) H5 ∧ ∃ ks : List Int, H5 D2 = some (.lst (ks.map V.int)) ∧ ks.length = j ∧ ∀ z ∈ ks, 0 ≤ z ∧ z < k)
            ⟨same_new hD2, [], upd_same, rfl, by simp⟩ (fun _ _ _ _ => trivial) ?_ ?_
          · rintro j y H5 H6 hj ⟨s5, ks, h5, l5, bb5⟩ ⟨rfl, rfl⟩
            have more : ∀ (z : Int), 0 ≤ z → z < k → ∃ acc, H6 D2 = some (.lst acc) ∧ acc.length < sizeLine ∧ Same (upd (upd (upd Hc t3 (.tup [V.int wy, V.int (u : Int), V.int kd])) l (.lst [V.int kd])) p (.lst (List.replicate (1 + (i : Int)).toNat [V.int kd]).flatten)) (upd H6 D2 (.lst (acc ++ [V.int z]))) ∧
                ∃ ks : List Int, (upd H6 D2 (.lst (acc ++ [V.int z]))) D2 = some (.lst (ks.map V.int)) ∧ ks.length = j + 1 ∧ ∀ z ∈ ks, 0 ≤ z ∧ z < k := by
              intro z z0 z1
              refine ⟨_, h5, ?_, fun b o e => ?_, ks ++ [z], ?_, ?_, ?_⟩
              · rw [List.length_map]
                exact small1000 (by omega)
              · rw [upd_ne (ne_of_none e hD2)]
                exact s5 b o e
              · rw [upd_same, List.map_append]
                rfl
              · rw [List.length_append, l5]
                rfl
              · intro z' hz
                rcases List.mem_append.mp hz with hz | hz
                · exact bb5 z' hz
                · rw [List.mem_singleton] at hz
                  subst hz
                  exact ⟨z0, z1⟩
            refine ⟨rfl, yes_of ?_⟩
            refine ⟨_, rfl, _, rfl, rfl, _, rfl, ite2 (fun ce => ?_) (fun ce => ?_)⟩
            · exact ⟨_, rfl, more kd kk0 (by omega)⟩
            · have ne : u ≠ j := fun z => ce (by
                subst z
                exact decide_eq_true (show V.int (0 + (u : Int)) = V.int (u : Int) by rw [Int.zero_add]))
              have tin := tieN_in fine (by omega : u < kss.length) (by omega : j < kss.length) ne
              refine ⟨_, rfl, _, rfl, _, rfl, f0, rs, kss, k, u, j, (show [V.ref f0, V.int (u : Int), V.int (0 + (j : Int))] = [V.ref f0, V.int (u : Int), V.int (j : Int)] by rw [Int.zero_add]), (t.but b4 gf.symm gr).same s5, fine, by omega, by omega, ne, more _ tin.1 tin.2⟩
          · rintro H5 ⟨s5, ks, h5, l5, bb5⟩
            obtain ⟨e1, e2⟩ := CI.next (k := k) (m := m) (n := n) (pv := some (V.int (1 + (i : Int)))) (wv := some (V.int wy)) (ov := some (V.int (u : Int))) (kv := some (V.int kd)) (rv := some (V.ref D2)) G bt G' t lk fine nf hf00 nR (b4.trans (.of s5)) (G4.same s5) (but_free b4 G4 hD2) h5 (by omega) bb5
            exact ⟨_, rfl, .inl ⟨rfl, _, SqL.of e1⟩, _, rfl, f0, _, _, rfl, rfl, e1, szf, e2⟩
        · obtain ⟨e1, e2⟩ := CI.next (k := k) (m := m) (n := n) (ks := List.replicate (1 + (i : Int)).toNat kd) (pv := some (V.int (1 + (i : Int)))) (wv := some (V.int wy)) (ov := some (V.int (u : Int))) (kv := some (V.int kd)) (rv := some (V.ref p)) G bt G' t lk fine nf hf00 nR b4 G4 hpH (by rw [upd_same, rep_one]) (by rw [List.length_replicate]; omega) (fun z hz => by
            rw [List.eq_of_mem_replicate hz]
            exact ⟨kk0, by omega⟩)
          exact ⟨_, rfl, .inl ⟨rfl, _, SqL.of e1⟩, _, rfl, f0, _, _, rfl, rfl, e1, szf, e2⟩
      · rintro σ H' ⟨pv0, wv, ov, kv, rv, rfl, bt, G', rs, kss, t, lk, fine, nf, _, nR⟩
        have gr : g ∉ rs := notin_new G nR
        refine ⟨_, rfl, _, rfl, _, rfl, g, m, n + 1000, rfl, by omega, G'.less (by omega), fun o Ho os bo ho Go hos pm => ?_⟩
        have nd : os.Nodup := pm.nodup_iff.mpr List.nodup_range
        have lo : os.length = m := by rw [pm.length_eq, List.length_range]
        have bd : ∀ j ∈ os, j < kss.length := fun j hj => by
          have := List.mem_range.mp (pm.mem_iff.mp hj)
          omega
        refine ⟨f0, o, rs, kss, k, os, rfl, t.but bo gf.symm gr, fine, hos, nd, bd, by omega, fun p ps Hp sp u np hp hn => ?_⟩
        have cp : CoN Ho Hp k p m := ⟨ps, namedK kss os, u, by rw [named_len]; exact lo, named_fine fine nd bd, np, hp, hn⟩
        exact q p Hp ((bt.trans bo).trans (.of sp)) ((Go.same sp).less (by omega)) (cp.back fun a ha => but_free (bt.trans bo) Go ha)
end
end K2

namespace K2
open PySem PySem.Spec PyProof.Rows L2 GL
/-! ### couples as data -/
def cT (c : Nat × Nat) : PyData := .tuple [.int (c.1 : Nat), .int (c.2 : Nat)]
def cplP (cs : List (Nat × Nat)) : PyData := .list (cs.map cT)
theorem eqv_cT (c d : Nat × Nat) : PyData.eqv (cT c) (cT d) = decide (c = d) := by
  obtain ⟨a, b⟩ := c
  obtain ⟨x, y⟩ := d
  unfold cT
  simp only [PyData.eqv, PyData.eqvAll]
  by_cases h1 : a = x
  · subst h1
    by_cases h2 : b = y
    · subst h2
      simp
    · simp [h2]
      omega
  · simp [h1]
    omega
theorem eqv_cs : ∀ xs ys : List (Nat × Nat), PyData.eqvAll (xs.map cT) (ys.map cT) = decide (xs = ys)
  | [], [] => by simp [PyData.eqvAll]
  | [], y :: ys => by simp [PyData.eqvAll]
  | x :: xs, [] => by simp [PyData.eqvAll]
  | x :: xs, y :: ys => by
    simp only [List.map_cons, PyData.eqvAll]
    rw [eqv_cs xs ys, eqv_cT]
    by_cases h1 : x = y
    · subst h1
      simp
    · simp [h1]
theorem eqv_cpl (xs ys : List (Nat × Nat)) : PyData.eqv (cplP xs) (cplP ys) = decide (xs = ys) := by
  unfold cplP
  simp only [PyData.eqv]
  exact eqv_cs xs ys
theorem lay_cT (c : Nat × Nat) : PyData.canLay0 (cT c) = true := by
  unfold cT
  simp only [PyData.canLay0, PyData.canLayAll0]
  rfl
theorem lay_cs : ∀ xs : List (Nat × Nat), PyData.canLayAll0 (xs.map cT) = true
  | [] => by simp [PyData.canLayAll0]
  | x :: xs => by
    simp only [List.map_cons, PyData.canLayAll0]
    rw [lay_cs xs, lay_cT]
    rfl
theorem depth_cT (c : Nat × Nat) : (cT c).depth ≤ 1 := by
  unfold cT
  simp only [PyData.depth, PyData.depthAll]
  omega
theorem shaped_cT (c : Nat × Nat) : SeqAt.shaped (cT c) = true := by
  unfold SeqAt.shaped
  rw [lay_cT, decide_eq_true (Nat.le_trans (depth_cT c) (by decide))]
  rfl
theorem shaped_cpl (xs : List (Nat × Nat)) : SeqAt.shaped (cplP xs) = true := by
  have d : (cplP xs).depth ≤ 2 := by
    unfold cplP
    simp only [PyData.depth]
    have := depthAll_of (n := 1) (ds := xs.map cT) fun e he => by
      obtain ⟨x, _, rfl⟩ := List.mem_map.mp he
      exact depth_cT x
    omega
  unfold SeqAt.shaped
  rw [decide_eq_true (Nat.le_trans d (by decide))]
  unfold cplP
  simp only [PyData.canLay0]
  rw [lay_cs]
  rfl
theorem any_cpl (xs : List (Nat × Nat)) (y : Nat × Nat) : ((xs.map cT).any fun z => PyData.eqv z (cT y)) = decide (y ∈ xs) := by
  induction xs with
  | nil => simp
  | cons x xs ih =>
    rw [List.map_cons, List.any_cons, ih, eqv_cT]
    by_cases h : x = y
    · subst h
      simp
    · have h' : y ≠ x := fun z => h z.symm
      simp [h, h']
theorem dp_pair {K : PySem.W.Frag} {H : Hp} {t : Addr} {c : Nat × Nat} (h : H t = some (.tup (pairT c))) : Dp K H (.ref t) (cT c) := .tup (SqT.of h) (.cons (.int _) (.cons (.int _) .nil))
theorem dp_cpl {K : PySem.W.Frag} {H : Hp} {a : Addr} {ts : List (Addr × Nat × Nat)} (h : H a = some (.lst (ts.map fun t => V.ref t.1))) (r : ∀ t ∈ ts, H t.1 = some (.tup (pairT t.2))) : Dp K H (.ref a) (cplP (ts.map (·.2))) := by
  have : cplP (ts.map (·.2)) = .list ((ts.map (·.2)).map cT) := rfl
  rw [this]
  refine .lst (SqL.of h) ?_
  have g : ∀ us : List (Addr × Nat × Nat), (∀ t ∈ us, H t.1 = some (.tup (pairT t.2))) → DpAll K H (us.map fun t => V.ref t.1) ((us.map (·.2)).map cT) := fun us => by
    induction us with
    | nil => exact fun _ => .nil
    | cons u us ih => exact fun h => .cons (dp_pair (h u (List.mem_cons_self ..))) (ih fun t ht => h t (List.mem_cons_of_mem _ ht))
  exact g ts r
theorem Cpls.dp {K : PySem.W.Frag} {H0 H : Hp} {a : Addr} {ts : List (Addr × Nat × Nat)} (R : Cpls H0 H a ts) : Dp K H (.ref a) (cplP (ts.map (·.2))) := dp_cpl R.top R.row
/-! ### who stands alike does so in other companies -/
theorem alike_comm (kss : List (List Int)) (a b : Nat) : alikeB kss a b = alikeB kss b a := by
  unfold alikeB
  congr 1
  funext m
  rw [Bool.or_comm (m == a) (m == b)]
  congr 1
  by_cases h : tieN kss m a = tieN kss m b
  · simp [h]
  · have : ¬ tieN kss m b = tieN kss m a := fun z => h z.symm
    simp [h, this]
theorem alike_named {kss : List (List Int)} {os : List Nat} (nd : os.Nodup) (bd : ∀ j ∈ os, j < kss.length) {i j : Nat} (hi : i < os.length) (hj : j < os.length) (ne : i ≠ j) (h : alikeB kss os[i] os[j] = true) : alikeB (namedK kss os) i j = true := by
  unfold alikeB
  refine List.all_eq_true.mpr fun m hm => ?_
  have ml : m < os.length := by
    have := List.mem_range.mp hm
    rw [named_len] at this
    exact this
  have gd : ∀ {x : Nat} (hx : x < os.length), os.getD x 0 = os[x] := fun {x} hx => by rw [List.getD_eq_getElem?_getD, List.getElem?_eq_getElem hx]; rfl
  by_cases c1 : m = i
  · subst c1
    simp
  · by_cases c2 : m = j
    · subst c2
      simp
    · rw [tie_named ml hi c1, tie_named ml hj c2, gd ml, gd hi, gd hj]
      have := List.all_eq_true.mp h os[m] (List.mem_range.mpr (bd _ (List.getElem_mem _)))
      have n1 : ¬ os[m] = os[i] := fun z => c1 ((List.getElem_inj nd).mp z)
      have n2 : ¬ os[m] = os[j] := fun z => c2 ((List.getElem_inj nd).mp z)
      have e1 : (os[m] == os[i]) = false := by simpa using n1
      have e2 : (os[m] == os[j]) = false := by simpa using n2
      rw [e1, e2] at this
      have t3 : tieN kss os[m] os[i] = tieN kss os[m] os[j] := by simpa using this
      rw [t3]
      simp
/-- the place of one in a list without repeats -/
theorem place_of {os : List Nat} {a : Nat} (h : a ∈ os) : ∃ i, ∃ hi : i < os.length, os[i] = a := by
  obtain ⟨i, hi, e⟩ := List.getElem_of_mem h
  exact ⟨i, hi, e⟩
theorem first_place {os : List Nat} (nd : os.Nodup) {i : Nat} (hi : i < os.length) : ∃ z, ((nums os).map PyData.int)[i]? = some z ∧ PyData.eqv z (.int (os[i] : Nat)) = true ∧ ∀ (m : Nat) (z' : PyData), m < i → ((nums os).map PyData.int)[m]? = some z' → PyData.eqv z' (.int (os[i] : Nat)) = false := by
  refine ⟨.int (os[i] : Nat), ?_, by simp [PyData.eqv], fun m z' hm e => ?_⟩
  · unfold nums
    rw [List.getElem?_map, List.getElem?_map, List.getElem?_eq_getElem hi]
    rfl
  · have ml : m < os.length := by omega
    unfold nums at e
    rw [List.getElem?_map, List.getElem?_map, List.getElem?_eq_getElem ml] at e
    cases e
    have : ¬ os[m] = os[i] := fun z => by
      have := (List.getElem_inj nd).mp z
      omega
    have t : ¬ ((os[m] : Nat) : Int) = (os[i] : Nat) := by omega
    simp [PyData.eqv, t]
def gK : List Value → List Value → List Value
  | [], [l, c, k] => [k, c, l]
  | _, _ => []
def gKV : List V → List V → List V
  | [], [l, c, k] => [k, c, l]
  | _, _ => []
theorem gK_rel {vs : List V} {us : List Value} {zs : List V} {ws : List Value} (a : Vals vs us) (b : Vals zs ws) : Vals (gKV vs zs) (gK us ws) := by
  cases a with
  | cons _ _ => exact .nil
  | nil =>
    cases b with
    | nil => exact .nil
    | cons r1 b =>
      cases b with
      | nil => exact .nil
      | cons r2 b =>
        cases b with
        | nil => exact .nil
        | cons r3 b =>
          cases b with
          | nil => exact .cons r3 (.cons r2 (.cons r1 .nil))
          | cons _ _ => exact .nil
def gK2 : List Value → List Value → List Value
  | [], [c, k] => [k, c]
  | _, _ => []
def gKV2 : List V → List V → List V
  | [], [c, k] => [k, c]
  | _, _ => []
theorem gK2_rel {vs : List V} {us : List Value} {zs : List V} {ws : List Value} (a : Vals vs us) (b : Vals zs ws) : Vals (gKV2 vs zs) (gK2 us ws) := by
  cases a with
  | cons _ _ => exact .nil
  | nil =>
    cases b with
    | nil => exact .nil
    | cons r1 b =>
      cases b with
      | nil => exact .nil
      | cons r2 b =>
        cases b with
        | nil => exact .cons r2 (.cons r1 .nil)
        | cons _ _ => exact .nil
/-- a def of the program, called by the names of its arguments -/
def UseK (P : Program) (w : World) (K : PySem.W.Frag) (mg : Str → Option Value) (base : Heap) (x : Str) (ps ks : List Str) (g : List Value → List Value → List Value) (gV : List V → List V → List V) (sp : Sp) (k : Nat) : Prop := ∃ f fd, FnOk P w K mg base CX0 k f fd ps sp ∧ mg x = some (.ref f) ∧ PySem.W.keepIn K (.ref f) = true ∧ KBinds K fd ps ks g gV
/-- two tables, as data -/
def twoP (kss lss : List (List Int)) : PyData := .list [tabP kss, tabP lss]
theorem lay_two (kss lss : List (List Int)) : PyData.canLay0 (twoP kss lss) = true := by
  unfold twoP
  simp only [PyData.canLay0, PyData.canLayAll0]
  rw [lay_tab, lay_tab]
  rfl
theorem shaped_two (kss lss : List (List Int)) : SeqAt.shaped (twoP kss lss) = true := by
  have d : (twoP kss lss).depth ≤ 3 := by
    unfold twoP
    simp only [PyData.depth, PyData.depthAll]
    have := depth_rows kss
    have := depth_rows lss
    omega
  unfold SeqAt.shaped
  rw [lay_two, decide_eq_true (Nat.le_trans d (by decide))]
  rfl
theorem eqv_two (kss lss : List (List Int)) : PyData.eqv (twoP kss lss) (twoP kss lss) = true := SeqAt.eqv_refl _ (lay_two kss lss)
/-- two rows, as data -/
def rows2 (l m : List Nat) : PyData := .list [rowP (nums l), rowP (nums m)]
theorem nice_row {l : List Nat} (h : l.length ≤ 50) (b : ∀ j ∈ l, j < 100) : Nice 1 (rowP (nums l)) := Nice.list (by unfold nums; rw [List.length_map, List.length_map]; exact h) fun e he => by
  unfold nums at he
  rw [List.map_map] at he
  obtain ⟨j, hj, rfl⟩ := List.mem_map.mp he
  have := b j hj
  exact Nice.leaf (by show ((j : Nat) : Int).natAbs < 2 ^ 100; omega)
theorem nice_tab {k : Int} {kss : List (List Int)} (f : Fine k kss) (hk : k ≤ 9) (l : kss.length ≤ 40) : Nice 3 (tabP kss) := (Nice.list (n := 1) (by rw [List.length_map]; omega) fun e he => by
  obtain ⟨ks, hks, rfl⟩ := List.mem_map.mp he
  obtain ⟨i, hi, e⟩ := List.getElem_of_mem hks
  obtain ⟨a, b⟩ := f i ks (by rw [List.getElem?_eq_getElem hi, e])
  exact Nice.list (by rw [List.length_map]; omega) fun z hz => by
    obtain ⟨x, hx, rfl⟩ := List.mem_map.mp hz
    obtain ⟨x0, x1⟩ := b x hx
    exact Nice.leaf (by show x.natAbs < 2 ^ 100; omega)).up
theorem nat_dt {K : PySem.W.Frag} {H : Hp} {o : Addr} {l : List Nat} (h : H o = some (.lst (natV l))) : Dt K H (.ref o) (rowP (nums l)) := .lst h (by rw [natV_nums]; exact dts_ints _)
end K2

namespace K2
open PySem PySem.Spec PyProof.Rows L2 GL
abbrev sLists : Stmt := topS 50
/-- what holds behind one statement is what the next one starts from -/
theorem seq_by {a b : TS} {D : Ends} {σ : L2.St} {H : Hp} (R : L2.St → Hp → Prop) (h1 : ∀ nx : L2.St → Hp → Prop, (∀ σ' H', R σ' H' → nx σ' H') → a { D with nx := nx } σ H) (h2 : ∀ σ' H', R σ' H' → b D σ' H') : tSeq a b D σ H := h1 _ h2
theorem pair_sorted {i j : Nat} {ns : List Int} (ne : i ≠ j) (pm : ns.Perm (nums [i, j])) (so : ns.Pairwise (· ≤ ·)) : ∃ x y : Nat, ns = nums [x, y] ∧ x < y ∧ ((x = i ∧ y = j) ∨ (x = j ∧ y = i)) := by
  by_cases h : i < j
  · refine ⟨i, j, ?_, h, .inl ⟨rfl, rfl⟩⟩
    refine PySem.W.os_sorted_one pm so ?_
    unfold nums
    exact List.pairwise_cons.mpr ⟨fun z hz => by rw [List.mem_map] at hz; obtain ⟨w, hw, rfl⟩ := hz; rw [List.mem_singleton] at hw; show ((_ : Nat) : Int) ≤ ((w : Nat) : Int); omega, List.pairwise_singleton ..⟩
  · refine ⟨j, i, ?_, by omega, .inr ⟨rfl, rfl⟩⟩
    refine PySem.W.os_sorted_one (pm.trans (List.Perm.swap ..)) so ?_
    unfold nums
    exact List.pairwise_cons.mpr ⟨fun z hz => by rw [List.mem_map] at hz; obtain ⟨w, hw, rfl⟩ := hz; rw [List.mem_singleton] at hw; show ((_ : Nat) : Int) ≤ ((w : Nat) : Int); omega, List.pairwise_singleton ..⟩
section
variable {P : Program} {w : World} {K : PySem.W.Frag} {mg : Str → Option Value} {base : Heap}
abbrev nLists : List Str := ["_law_generator_here", "_law_kinds", "_law_company_here", "_law_many", "_law_kept", "_law_order_here", "_law_lot", "_law_person", "_law_dues", "_law_held", "_law_there", "_law_small", "_law_one", "_law_other", "_law_low", "_law_high"]
theorem scLists : FnScope nLists ["_law_generator_here", "_law_kinds", "_law_company_here"] (defScope sLists) := ⟨rfl, rfl, rfl, by decide +kernel, rfl, by decide +kernel, by decide +kernel⟩
def spLists : Sp := fun vs H Q _ => ∃ (g c : Addr) (k : Int) (rs : List Addr) (kss : List (List Int)) (n : Nat), vs = [.ref g, .int k, .ref c] ∧ 2 ≤ k ∧ k ≤ 9 ∧ Gen H g (n + 1000) ∧ Tab H c rs kss ∧ Fine k kss ∧ 1 ≤ kss.length ∧ kss.length ≤ 40 ∧ c ≠ g ∧ g ∉ rs ∧ ∀ H', But g H H' → Q (.bl true) H'
abbrev KCO : List Str := ["kinds", "company", "order"]
abbrev KCL : List Str := ["kinds", "company", "lot"]
abbrev KCC : List Str := ["kinds", "company", "couple"]
theorem ok_lists {f : Addr} {fd : FuncData} (F : Fun K "_law_lists_right" "_law_lists_right" sLists f fd) (T : Bi mg) (U : Use P w K mg base "_law_random" ["_law_generator_here", "_law_bound"] spRandom 2) (UO : Use P w K mg base "_law_order" ["_law_generator_here", "_law_many"] spOrder 3)
    (UN : Use P w K mg base "_law_named" ["_law_company_here", "_law_order_here"] spNamed 2) (UR : Use P w K mg base "renamed" KCO spRenamed 6) (UA : Use P w K mg base "among" KCL spAmong 6) (UC : Use P w K mg base "alike_couples" ["kinds", "company"] spAlikes 6) (US : Use P w K mg base "stand_alike" KCC spStand 6)
    (KR : UseK P w K mg base "renamed" KCO ["order", "company", "kinds"] gK gKV spRenamed 6) (KA : UseK P w K mg base "among" KCL ["lot", "company", "kinds"] gK gKV spAmong 6) : FnG P w K mg base CX0 7 f fd ["_law_generator_here", "_law_kinds", "_law_company_here"] spLists := by
  obtain ⟨fr, fdr, FR, mr, kr, br⟩ := KR
  obtain ⟨fa, fda, FA, ma, ka, ba⟩ := KA
  refine FnG.mk' F scLists (fun vs H Q E h => ?_) (fun cdv A outer s H vs Q E hgd hr h => ?_)
  · obtain ⟨g, c, k, rs, kss, n, rfl, _⟩ := h
    rfl
  · obtain ⟨g, c, k, rs, kss, n, rfl, k2, k9, G, t, fine, m1, m40, cg, gr, q⟩ := h
    have hr2 : Room 2 (A.deeper (envOfC "_law_lists_right" (defScope sLists) s.heap.objs.size f cdv)) := hr.mono (by decide)
    have hr3 : Room 3 (A.deeper (envOfC "_law_lists_right" (defScope sLists) s.heap.objs.size f cdv)) := hr.mono (by decide)
    have hgd' : (A.deeper (envOfC "_law_lists_right" (defScope sLists) s.heap.objs.size f cdv)).guards = some [] := hgd
    have h65 : (A.deeper (envOfC "_law_lists_right" (defScope sLists) s.heap.objs.size f cdv)).units + 65 < cLine := by
      have := hr.un
      omega
    refine ⟨_, pss_cons (ps_par (i := 3) (j := 4) rfl scLists.nd rfl rfl (by decide) rfl rfl (pa_cons (pe_callB call_len_seq (by rfl) T.len PySem.boot_len (pa_cons (pv 2) pa_nil)) (pa_cons (pe_callB (call_repD hgd' hr.units) (by rfl) T.repr (by decide +kernel) (pa_cons (pv 2) pa_nil)) pa_nil)) (by rfl))
      (pss_cons (ps_par (i := 5) (j := 6) rfl scLists.nd rfl rfl (by decide) rfl rfl (pa_cons (pe_use UO hr3 (by rfl) (pa_cons (pv 0) (pa_cons (pv 3) pa_nil)))
          (pa_cons (pe_lc (own := [("_law_person", 7)]) (g := gName 7) rfl scLists.nd (pi_range1 (by rfl) T.range (pa_cons (pv 3) pa_nil)) (blkOk_by (N := nLists) (sc := defScope sLists) (by decide +kernel)) (fun _ _ _ _ _ => pg_name (i := 7) scLists.nd rfl (Or.inl rfl))
            (fun _ _ _ _ _ => by exact (pts_one (pt_cmpR op_gt (pe_use U hr2 (by rfl) (pa_cons (pv 0) (pa_cons pe_int pa_nil))) pe_int (nomark _)))) (fun _ _ _ _ _ => pv 7)) pa_nil)) (by rfl))
      (pss_cons (ps_set (i := 6) scLists.nd rfl (Or.inl rfl) (pe_ifExp (pt_cmpR (op_neNil hr.units) (pv 6) (pe_lst pa_nil) (nomark _)) (pv 6) (pe_lst (pa_cons (pe_use U hr2 (by rfl) (pa_cons (pv 0) (pa_cons (pv 3) pa_nil))) pa_nil))))
      (pss_cons (ps_par (i := 8) (j := 9) rfl scLists.nd rfl rfl (by decide) rfl rfl (pa_cons (pe_lst (pa_cons (pe_use UN hr2 (by rfl) (pa_cons (pv 2) (pa_cons (pv 5) pa_nil))) (pa_cons (pe_use UN hr2 (by rfl) (pa_cons (pv 2) (pa_cons (pv 6) pa_nil))) pa_nil)))
          (pa_cons (pe_callB (call_repD hgd' hr.units) (by rfl) T.repr (by decide +kernel) (pa_cons (pe_lst (pa_cons (pv 5) (pa_cons (pv 6) pa_nil))) pa_nil)) pa_nil)) (by rfl))
      (pss_cons (ps_par (i := 10) (j := 11) rfl scLists.nd rfl rfl (by decide) rfl rfl (pa_cons (pe_use UR hr (by rfl) (pa_cons (pv 1) (pa_cons (pv 2) (pa_cons (pv 5) pa_nil)))) (pa_cons (pe_use UA hr (by rfl) (pa_cons (pv 1) (pa_cons (pv 2) (pa_cons (pv 6) pa_nil)))) pa_nil)) (by rfl))
      (pss_cons (ps_if (PW.pt (pw_or (pt_cmpR op_ne (pe_callB (call_repD hgd' hr.units) (by rfl) T.repr (by decide +kernel) (pa_cons (pe_lst (pa_cons (pv 5) (pa_cons (pv 6) pa_nil))) pa_nil)) (pv 9) (nomark _)) (pw_or1 (pt_cmpR (op_neD hr.units) (pe_lst (pa_cons (pv 10) (pa_cons (pv 11) pa_nil))) (pv 8) (nomark _))))) (pss_one (ps_ret pe_bl)) pss_nil)
      (pss_cons (ps_if (PW.pt (pw_or (pt_cmpR (op_neD hr.units) (pv 10) (pe_use UN hr2 (by rfl) (pa_cons (pv 2) (pa_cons (pv 5) pa_nil))) (nomark _)) (pw_or1 (pt_cmpR (op_neD hr.units) (pe_kws FR hr (by rfl) mr kr br pass0 (pk_cons (pv 5) (pk_cons (pv 2) (pk_cons (pv 1) pk_nil)))) (pv 10) (nomark _))))) (pss_one (ps_ret pe_bl)) pss_nil)
      (pss_cons (ps_if (PW.pt (pw_or (pt_cmpR (op_neD hr.units) (pv 11) (pe_use UN hr2 (by rfl) (pa_cons (pv 2) (pa_cons (pv 6) pa_nil))) (nomark _)) (pw_or1 (pt_cmpR (op_neD hr.units) (pe_kws FA hr (by rfl) ma ka ba pass0 (pk_cons (pv 6) (pk_cons (pv 2) (pk_cons (pv 1) pk_nil)))) (pv 11) (nomark _))))) (pss_one (ps_ret pe_bl)) pss_nil)
      (pss_cons (ps_for PassesOwn.never rfl (pi_list (pe_use UC hr (by rfl) (pa_cons (pv 1) (pa_cons (pv 2) pa_nil)))) (pg_tup rfl (pgs_cons (pg_name (i := 12) scLists.nd rfl (Or.inl rfl)) (pgs_cons (pg_name (i := 13) scLists.nd rfl (Or.inl rfl)) pgs_nil)))
        (pss_cons (ps_if (PW.pt (pw_and (pt_cmpR op_in_seq (pv 12) (pv 6) (by rfl)) (pw_and (pt_cmpR op_in_seq (pv 13) (pv 6) (by rfl)) (pw_and1 (pt_not (pt_val (pe_use US hr (by rfl) (pa_cons (pv 1) (pa_cons (pv 11)
              (pa_cons (pe_tup (pa_cons (pe_bm PySem.F.plainAttrs_list PySem.F.slot_list_index PySem.F.type_list_index (mt_indexD h65) (pv 6) (pa_cons (pv 12) pa_nil)) (pa_cons (pe_bm PySem.F.plainAttrs_list PySem.F.slot_list_index PySem.F.type_list_index (mt_indexD h65) (pv 6) (pa_cons (pv 13) pa_nil)) pa_nil))) pa_nil)))))))))) (pss_one (ps_ret pe_bl)) pss_nil)
        (pss_cons (ps_asg (pe_callB cr_sortedI (by rfl) T.sorted (by decide +kernel) (pa_cons (pe_lst (pa_cons (pe_bm PySem.F.plainAttrs_list PySem.F.slot_list_index PySem.F.type_list_index (mt_indexD h65) (pv 5) (pa_cons (pv 12) pa_nil)) (pa_cons (pe_bm PySem.F.plainAttrs_list PySem.F.slot_list_index PySem.F.type_list_index (mt_indexD h65) (pv 5) (pa_cons (pv 13) pa_nil)) pa_nil))) pa_nil))
            (pg_lst rfl (pgs_cons (pg_name (i := 14) scLists.nd rfl (Or.inl rfl)) (pgs_cons (pg_name (i := 15) scLists.nd rfl (Or.inl rfl)) pgs_nil))))
        (pss_one (ps_if (pt_cmpR op_notBl (pe_use US hr (by rfl) (pa_cons (pv 1) (pa_cons (pv 10) (pa_cons (pe_tup (pa_cons (pv 14) (pa_cons (pv 15) pa_nil))) pa_nil)))) pe_bl (nomark _)) (pss_one (ps_ret pe_bl)) pss_nil)))))
      (pss_cons (ps_expr (pe_bm PySem.F.plainAttrs_list PySem.F.slot_list_append PySem.F.type_list_append mt_append (pe_ix ix_list (pv 10) (pe_op op_sub (pv 3) pe_int) (fun _ _ => rfl)) (pa_cons pe_non pa_nil)))
      (pss_cons (ps_expr (pe_bm PySem.F.plainAttrs_list PySem.F.slot_list_append PySem.F.type_list_append mt_append (pe_ix ix_list (pv 11) pe_int (fun _ _ => rfl)) (pa_cons pe_non pa_nil)))
      (pss_one (ps_ret (pe_and (pe_cmpR (op_eqD hr.units) (pe_use UA hr (by rfl) (pa_cons (pv 1) (pa_cons (pv 2) (pa_cons (pv 6) pa_nil)))) (pe_use UN hr2 (by rfl) (pa_cons (pv 2) (pa_cons (pv 6) pa_nil))) (nomark _))
        (pe_one (pe_cmpR op_eq (pe_callB (call_repD hgd' hr.units) (by rfl) T.repr (by decide +kernel) (pa_cons (pv 2) pa_nil)) (pv 4) (nomark _)))))))))))))))), ?_⟩
    obtain ⟨m, hm⟩ : ∃ m, kss.length = m := ⟨_, rfl⟩
    have lr : (rs.map V.ref).length = m := by rw [List.length_map, t.len, hm]
    obtain ⟨fi1, fi2, fi3⟩ := (nice_tab fine k9 m40).fits
    refine ⟨_, rfl, c, _, rfl, .inl (SqL.of t.top), _, rfl, .ref c, tabP kss, rfl, t.dt, fi1, fi2, fi3, _, _, rfl, ?_⟩
    rw [lr]
    -- an order and a lot
    refine ⟨_, rfl, _, rfl, g, m, n + 900 - 5 * m, rfl, by omega, G.less (by omega), fun o H1 os b1 ho0 G1 hos pm => ?_⟩
    have go : o ≠ g := (G.ne ho0).symm
    refine ⟨_, rfl, _, rfl, by omega, by omega, fun D hD => ?_⟩
    have Dg : D ≠ g := (G1.ne hD).symm
    refine lc_it (walk_range (lo := 0) (n := (m : Int).toNat)) (fun i H5 => But g H1 H5 ∧ Gen H5 g (n + 400 - 5 * i) ∧ ∃ l : List Nat, H5 D = some (.lst (natV l)) ∧ l.Pairwise (· < ·) ∧ (∀ p ∈ l, p < i) ∧ l.length ≤ i)
      ⟨But.new hD, (G1.new hD).less (by omega), [], upd_same, .nil, by simp, Nat.le_refl _⟩ (fun _ _ _ _ => trivial) ?_ ?_
    · rintro i y H5 H6 hi ⟨b5, G5, l, h5, pw, bd, ll⟩ ⟨rfl, rfl⟩
      refine ⟨rfl, ?_⟩
      refine ⟨_, rfl, g, 3, n + 400 - 5 * (i + 1), rfl, by decide, by decide, G5.less (by omega), fun x H7 x0 x1 G7 b7 => ⟨_, _, rfl, rfl, _, rfl, ?_⟩⟩
      have h7 := b7 _ _ h5 Dg
      refine ite2 (fun _ => ?_) (fun _ => ?_)
      · refine ⟨_, rfl, _, h7, ?_, fun b o e nb => ?_, G7.other Dg, l ++ [i], ?_, ?_, ?_, ?_⟩
        · unfold natV
          rw [List.length_map]
          exact small1000 (by omega)
        · rw [upd_ne (ne_of_none e hD)]
          exact b7 b o (b5 b o e nb) nb
        · have ez : natV (l ++ [i]) = natV l ++ [V.int (0 + (i : Int))] := by
            unfold natV
            rw [List.map_append, Int.zero_add]
            rfl
          rw [upd_same, ez]
        · refine List.pairwise_append.mpr ⟨pw, List.pairwise_singleton .., fun a ha b hb => ?_⟩
          rw [List.mem_singleton] at hb
          subst hb
          exact bd a ha
        · intro p hp
          rcases List.mem_append.mp hp with hp | hp
          · exact Nat.lt_succ_of_lt (bd p hp)
          · rw [List.mem_singleton] at hp
            omega
        · rw [List.length_append]
          show l.length + 1 ≤ i + 1
          omega
      · exact ⟨b5.trans b7, G7, l, h7, pw, fun p hp => Nat.lt_succ_of_lt (bd p hp), Nat.le_succ_of_le ll⟩
    rintro H5 ⟨b5, G5, l0, h5, pw0, bd0, ll0⟩
    refine ⟨_, _, rfl, ?_⟩
    have b15 := b1.trans b5
    have hos5 := b5 _ _ hos go
    dsimp only
    refine seq_by (R := fun σ' H' => ∃ (Lo : Addr) (l : List Nat), σ' = [some (V.ref g), some (.int k), some (.ref c), some (.int (m : Int)), some (.str (tabP kss).shown), some (.ref o), some (.ref Lo), none, none, none, none, none, none, none, none, none] ∧ But g H5 H' ∧ H' Lo = some (.lst (natV l)) ∧ Lot m l) (fun nx hn => ?_) ?_
    · refine ⟨_, rfl, Nat.zero_le _, fun e1 he1 => ?_⟩
      obtain ⟨H6, q6, s6, f6⟩ := gen H5 he1 (.lst [])
      rw [q6]
      clear q6
      refine ⟨D, e1, _, rfl, rfl, SqL.of (s6 _ _ h5), SqL.of f6, _, rfl, ?_⟩
      cases c0 : (natV l0).isEmpty with
      | false =>
        refine iteT ⟨_, rfl, hn _ _ ⟨D, l0, rfl, .of s6, s6 _ _ h5, ?_, pw0, fun p hp => ?_⟩⟩
        · intro z
          rw [z] at c0
          cases c0
        · have := bd0 p hp
          omega
      | true =>
        refine iteF ⟨_, rfl, _, rfl, g, m, n, rfl, by omega, by omega, (G5.same s6).less (by omega), fun x H7 x0 x1 G7 b7 => ⟨one_le, fun L hL => ?_⟩⟩
        obtain ⟨u, rfl⟩ : ∃ u : Nat, x = (u : Int) := ⟨x.toNat, by omega⟩
        obtain ⟨H8, q8, s8, f8⟩ := gen H7 hL (.lst [.int (u : Int)])
        rw [q8]
        clear q8
        exact hn _ _ ⟨L, [u], rfl, (But.of s6).trans (b7.trans (.of s8)), f8, by simp, List.pairwise_singleton .., fun p hp => by rw [List.mem_singleton] at hp; omega⟩
    rintro σ' H6 ⟨Lo, l, rfl, b6, hLo, lot⟩
    have b06 := b15.trans b6
    have t6 := t.but b06 cg gr
    have ho6 := b6 _ _ hos5 go
    have nd : os.Nodup := pm.nodup_iff.mpr List.nodup_range
    have lo : os.length = m := by rw [pm.length_eq, List.length_range]
    have bd : ∀ j ∈ os, j < kss.length := fun j hj => by
      have := List.mem_range.mp (pm.mem_iff.mp hj)
      omega
    have lot' : Lot kss.length l := by rw [hm]; exact lot
    have lnd := nodup_up lot.up
    have ll := lot.len
    have pm' : os.Perm (List.range kss.length) := by rw [hm]; exact pm
    -- what is due
    refine ⟨_, rfl, _, rfl, c, o, rs, kss, k, os, rfl, t6, fine, ho6, nd, bd, by omega, fun p1 ps1 H7 s7 u1 _ _ _ => ?_⟩
    refine ⟨_, rfl, _, rfl, c, Lo, rs, kss, k, l, rfl, t6.same s7, fine, s7 _ _ hLo, lnd, lot'.low, by omega, fun p2 ps2 H8 s8 u2 _ _ _ => ?_⟩
    refine ⟨(by show 2 ≤ sizeLine; decide), fun du hdu => ?_⟩
    obtain ⟨H9, q9, s9, f9⟩ := gen H8 hdu (.lst [.ref p1, .ref p2])
    rw [q9]
    clear q9
    have s69 := s7.trans (s8.trans s9)
    have nice2 : Nice 3 (rows2 os l) := (Nice.list (n := 1) (by show 2 ≤ 50; decide) fun e he => by
      rcases List.mem_cons.mp he with rfl | he
      · exact nice_row (by omega) fun j hj => by have := bd j hj; omega
      · rw [List.mem_singleton] at he
        subst he
        exact nice_row (by omega) fun j hj => by have := lot'.low j hj; omega).up
    obtain ⟨gi1, gi2, gi3⟩ := nice2.fits
    refine ⟨_, rfl, _, rfl, (by show 2 ≤ sizeLine; decide), fun z1 hz1 => ?_⟩
    obtain ⟨H10, q10, s10, f10⟩ := gen H9 hz1 (.lst [.ref o, .ref Lo])
    rw [q10]
    clear q10
    have s610 := s69.trans s10
    refine ⟨.ref z1, rows2 os l, rfl, .lst f10 (.cons (nat_dt (s610 _ _ ho6)) (.cons (nat_dt (s610 _ _ hLo)) .nil)), gi1, gi2, gi3, _, _, rfl, ?_⟩
    have t10 := t6.same s610
    -- renamed, among
    refine ⟨_, rfl, _, rfl, _, rfl, k, c, o, rs, kss, os, rfl, k2, k9, t10, fine, m1, m40, s610 _ _ ho6, pm', fun p3 ps3 H11 s11 u3 np3 hp3 hn3 => ?_⟩
    refine ⟨_, rfl, _, rfl, _, rfl, k, c, Lo, rs, kss, l, rfl, k2, k9, t10.same s11, fine, m1, m40, s11 _ _ (s610 _ _ hLo), lot', fun p4 ps4 H12 s12 u4 np4 hp4 hn4 => ⟨_, _, rfl, ?_⟩⟩
    have s1012 := s11.trans s12
    have s612 := s610.trans s1012
    have u3' := u3.same s12
    have nf := named_fine fine nd bd
    have lf := named_fine fine lnd lot'.low
    -- what was handed in stays
    refine ⟨_, rfl, _, rfl, (by show 2 ≤ sizeLine; decide), fun z2 hz2 => ?_⟩
    obtain ⟨H13, q13, s13, f13⟩ := gen H12 hz2 (.lst [.ref o, .ref Lo])
    rw [q13]
    clear q13
    have s613 := s612.trans s13
    refine ⟨.ref z2, rows2 os l, rfl, .lst f13 (.cons (nat_dt (s613 _ _ ho6)) (.cons (nat_dt (s613 _ _ hLo)) .nil)), gi1, gi2, gi3, _, rfl, rfl, _, rfl, iteNS rfl ?_⟩
    refine ⟨_, rfl, _, rfl, (by show 2 ≤ sizeLine; decide), fun z3 hz3 => ?_⟩
    obtain ⟨H14, q14, s14, f14⟩ := gen H13 hz3 (.lst [.ref p3, .ref p4])
    rw [q14]
    clear q14
    have s1214 := s13.trans s14
    have s1014 := s1012.trans s1214
    have s614 := s612.trans s1214
    have s914 := s10.trans s1014
    have u1' := (u1.same s8).same (s9.trans s914)
    have u2' := u2.same (s9.trans s914)
    refine ⟨_, rfl, twoP (namedK kss os) (namedK kss l), twoP (namedK kss os) (namedK kss l), .lst (SqL.of f14) (.cons (u3'.same s1214).dp (.cons (u4.same s1214).dp .nil)), .lst (SqL.of (s914 _ _ f9)) (.cons u1'.dp (.cons u2'.dp .nil)), shaped_two _ _, shaped_two _ _, _, rfl, ?_⟩
    rw [eqv_two]
    refine iteF ?_
    -- renamed again
    have u3a := u3'.same s1214
    have u4a := u4.same s1214
    have t14 := t6.same s614
    refine ⟨_, rfl, _, rfl, _, rfl, c, o, rs, kss, k, os, rfl, t14, fine, s614 _ _ ho6, nd, bd, by omega, fun p5 ps5 H15 s15 u5 _ _ _ => ?_⟩
    refine ⟨tabP (namedK kss os), tabP (namedK kss os), (u3a.same s15).dp, u5.dp, shaped_tab _, shaped_tab _, _, rfl, ?_⟩
    rw [eqv_tab, decide_eq_true rfl]
    refine iteF ?_
    have s615 := s614.trans s15
    refine ⟨_, rfl, _, rfl, _, rfl, k, c, o, rs, kss, os, rfl, k2, k9, t6.same s615, fine, m1, m40, s615 _ _ ho6, pm', fun p6 ps6 H16 s16 u6 _ _ _ => ?_⟩
    refine ⟨_, rfl, tabP (namedK kss os), tabP (namedK kss os), u6.dp, ((u3a.same s15).same s16).dp, shaped_tab _, shaped_tab _, _, rfl, ?_⟩
    rw [eqv_tab, decide_eq_true rfl]
    refine iteF ?_
    -- among again
    have s1416 := s15.trans s16
    have s616 := s614.trans s1416
    refine ⟨_, rfl, _, rfl, _, rfl, c, Lo, rs, kss, k, l, rfl, t6.same s616, fine, s616 _ _ hLo, lnd, lot'.low, by omega, fun p7 ps7 H17 s17 u7 _ _ _ => ?_⟩
    refine ⟨tabP (namedK kss l), tabP (namedK kss l), ((u4a.same s1416).same s17).dp, u7.dp, shaped_tab _, shaped_tab _, _, rfl, ?_⟩
    rw [eqv_tab, decide_eq_true rfl]
    refine iteF ?_
    have s617 := s616.trans s17
    refine ⟨_, rfl, _, rfl, _, rfl, k, c, Lo, rs, kss, l, rfl, k2, k9, t6.same s617, fine, m1, m40, s617 _ _ hLo, lot', fun p8 ps8 H18 s18 u8 _ _ _ => ?_⟩
    have s1418 := s1416.trans (s17.trans s18)
    refine ⟨_, rfl, tabP (namedK kss l), tabP (namedK kss l), u8.dp, (u4a.same s1418).dp, shaped_tab _, shaped_tab _, _, rfl, ?_⟩
    rw [eqv_tab, decide_eq_true rfl]
    refine iteF ?_
    have s618 := s614.trans s1418
    have t18 := t6.same s618
    -- each couple that stands alike
    refine ⟨_, rfl, _, rfl, k, c, rs, kss, rfl, k2, k9, t18, fine, m1, m40, fun La ts H19 s19 nLa R ec => ?_⟩
    have s619 := s618.trans s19
    have u3b := (u3a.same s1418).same s19
    have u4b := (u4a.same s1418).same s19
    have nl3 : (namedK kss os).length = m := by rw [named_len, lo]
    have nl4 : (namedK kss l).length = l.length := named_len _ _
    refine ⟨La, rfl, ⟨_, SqL.of R.top⟩, ?_⟩
    refine for_list (K := K) (a := La) (xs := ts.map fun t => V.ref t.1) (fun i σ H' => ∃ a b x y : Option V, σ = [some (V.ref g), some (.int k), some (.ref c), some (.int (m : Int)), some (.str (tabP kss).shown), some (.ref o), some (.ref Lo), none, some (.ref du), some (.str (rows2 os l).shown), some (.ref p3), some (.ref p4), a, b, x, y] ∧ Same H19 H')
      ⟨none, none, none, none, rfl, Same.refl _⟩ (fun i σ H' _ z => by
        obtain ⟨_, _, _, _, _, s'⟩ := z
        exact SqL.of (s' _ _ R.top)) ?_ ?_
    · rintro i y σ H20 hi ⟨xa, xb, xx, xy, rfl, s20⟩
      rw [List.getElem?_map] at hi
      cases e : ts[i]? with
      | none =>
        rw [e] at hi
        cases hi
      | some u =>
        rw [e] at hi
        cases hi
        have um := List.mem_of_getElem? e
        obtain ⟨ad, a, b⟩ := u
        have hu : (a, b) ∈ (cplTo kss.length kss.length).filter (fun c => alikeB kss c.1 c.2) := by rw [← ec]; exact List.mem_map_of_mem (f := (·.2)) um
        obtain ⟨hu1, al⟩ := List.mem_filter.mp hu
        obtain ⟨w1, w2, w3⟩ := (cpl_mem _ _ a b).mp hu1
        have hrow := s20 _ _ (R.row _ um)
        refine ⟨ad, _, rfl, SqT.of hrow, rfl, _, _, rfl, _, _, rfl, rfl, ?_⟩
        refine seq_by (R := fun σ' H' => σ' = [some (V.ref g), some (.int k), some (.ref c), some (.int (m : Int)), some (.str (tabP kss).shown), some (.ref o), some (.ref Lo), none, some (.ref du), some (.str (rows2 os l).shown), some (.ref p3), some (.ref p4), some (.int (a : Nat)), some (.int (b : Nat)), xx, xy] ∧ Same H20 H') (fun nx hn => ?_) ?_
        · have hl20 := s20 _ _ (s619 _ _ hLo)
          refine ⟨_, rfl, _, rfl, Lo, _, rfl, .inl (SqL.of hl20), rfl, flat_nat l, _, rfl, ?_⟩
          show ite ((inV (.int (a : Nat)) (natV l)) = true) _ _
          rw [inV_nat]
          by_cases ca : a ∈ l
          · rw [decide_eq_true ca]
            refine iteT ⟨_, rfl, _, rfl, Lo, _, rfl, .inl (SqL.of hl20), rfl, flat_nat l, _, rfl, ?_⟩
            show ite ((inV (.int (b : Nat)) (natV l)) = true) _ _
            rw [inV_nat]
            by_cases cb : b ∈ l
            · rw [decide_eq_true cb]
              obtain ⟨ia, hia, eia⟩ := place_of ca
              obtain ⟨ib, hib, eib⟩ := place_of cb
              obtain ⟨zA, zA1, zA2, zA3⟩ := first_place lnd hia
              obtain ⟨zB, zB1, zB2, zB3⟩ := first_place lnd hib
              rw [eia] at zA2 zA3
              rw [eib] at zB2 zB3
              have dl : Dp K H20 (.ref Lo) (.list ((nums l).map PyData.int)) := nat_dp hl20
              have iab : ia < ib := by
                rcases Nat.lt_or_ge ia ib with h | h
                · exact h
                · rcases Nat.eq_or_lt_of_le h with h | h
                  · subst h
                    omega
                  · have := List.pairwise_iff_getElem.mp lot.up ib ia hib hia h
                    omega
              refine iteT ⟨_, rfl, _, rfl, _, rfl, .inl ⟨rfl, _, SqL.of hl20⟩, _, rfl, Lo, _, .int (a : Nat), _, ia, zA, rfl, rfl, dl, .int _, shaped_row (nums l), rfl, zA1, zA2, zA3, ?_⟩
              refine ⟨_, rfl, .inl ⟨rfl, _, SqL.of hl20⟩, _, rfl, Lo, _, .int (b : Nat), _, ib, zB, rfl, rfl, dl, .int _, shaped_row (nums l), rfl, zB1, zB2, zB3, ?_⟩
              refine ⟨(by show 2 ≤ sizeLine; decide), fun tp htp => ?_⟩
              obtain ⟨H21, q21, s21, f21⟩ := gen H20 htp (.tup [.int (ia : Nat), .int (ib : Nat)])
              rw [q21]
              clear q21
              refine ⟨namedK kss l, (ia, ib), ⟨⟨k, p4, tp, ps4, rfl, k2, k9, (u4b.same s20).same s21, lf, f21⟩, by omega, by omega, iab, by omega⟩, fun H22 s22 => ⟨_, rfl, ?_⟩⟩
              have ali := alike_named lnd lot'.low hia hib (by omega) (by rw [eia, eib]; exact al)
              show ite ((!alikeB (namedK kss l) ia ib) = true) _ _
              rw [ali]
              exact iteF (hn _ _ ⟨rfl, s21.trans s22⟩)
            · rw [decide_eq_false cb]
              exact iteF (hn _ _ ⟨rfl, Same.refl _⟩)
          · rw [decide_eq_false ca]
            exact iteF (hn _ _ ⟨rfl, Same.refl _⟩)
        rintro σ' H21 ⟨rfl, s21⟩
        have s1921 := s20.trans s21
        have ho21 := s1921 _ _ (s619 _ _ ho6)
        have ma : a ∈ os := pm.mem_iff.mpr (List.mem_range.mpr (by omega))
        have mb : b ∈ os := pm.mem_iff.mpr (List.mem_range.mpr (by omega))
        obtain ⟨ia, hia, eia⟩ := place_of ma
        obtain ⟨ib, hib, eib⟩ := place_of mb
        obtain ⟨zA, zA1, zA2, zA3⟩ := first_place nd hia
        obtain ⟨zB, zB1, zB2, zB3⟩ := first_place nd hib
        rw [eia] at zA2 zA3
        rw [eib] at zB2 zB3
        have dl : Dp K H21 (.ref o) (.list ((nums os).map PyData.int)) := nat_dp ho21
        have iab : ia ≠ ib := fun z => by
          subst z
          omega
        refine ⟨_, rfl, .inl ⟨rfl, _, SqL.of ho21⟩, _, rfl, o, _, .int (a : Nat), _, ia, zA, rfl, rfl, dl, .int _, shaped_row (nums os), rfl, zA1, zA2, zA3, ?_⟩
        refine ⟨_, rfl, .inl ⟨rfl, _, SqL.of ho21⟩, _, rfl, o, _, .int (b : Nat), _, ib, zB, rfl, rfl, dl, .int _, shaped_row (nums os), rfl, zB1, zB2, zB3, ?_⟩
        refine ⟨(by show 2 ≤ sizeLine; decide), fun z4 hz4 => ?_⟩
        obtain ⟨H22, q22, s22, f22⟩ := gen H21 hz4 (.lst [.int (ia : Nat), .int (ib : Nat)])
        rw [q22]
        clear q22
        refine ⟨z4, nums [ia, ib], rfl, SqL.of f22, fun ns' p9 pm9 so9 hp9 => ?_⟩
        obtain ⟨x, y, rfl, xy, cs⟩ := pair_sorted iab pm9 so9
        obtain ⟨H23, q23, s23, f23⟩ := gen H22 hp9 (.lst ((nums [x, y]).map V.int))
        rw [q23]
        clear q23
        refine ⟨p9, [.int (x : Nat), .int (y : Nat)], rfl, SqL.of f23, rfl, _, _, rfl, _, _, rfl, rfl, ?_⟩
        refine ⟨_, rfl, _, rfl, _, rfl, _, rfl, (by show 2 ≤ sizeLine; decide), fun tp htp => ?_⟩
        obtain ⟨H24, q24, s24, f24⟩ := gen H23 htp (.tup [.int (x : Nat), .int (y : Nat)])
        rw [q24]
        clear q24
        have s1924 := s1921.trans (s22.trans (s23.trans s24))
        have yl : y < os.length := by omega
        refine ⟨namedK kss os, (x, y), ⟨⟨k, p3, tp, ps3, rfl, k2, k9, u3b.same s1924, nf, f24⟩, by omega, by omega, xy, by omega⟩, fun H25 s25 => ?_⟩
        have ali : alikeB (namedK kss os) x y = true := by
          rcases cs with ⟨rfl, rfl⟩ | ⟨rfl, rfl⟩
          · exact alike_named nd bd hia hib iab (by rw [eia, eib]; exact al)
          · exact alike_named nd bd hib hia iab.symm (by rw [eia, eib, alike_comm]; exact al)
        refine ⟨_, _, rfl, rfl, _, rfl, ?_⟩
        show ite ((!decide (alikeB (namedK kss os) x y = true)) = true) _ _
        rw [ali]
        exact iteF ⟨_, _, _, _, rfl, s1924.trans s25⟩
    · rintro σ H20 ⟨xa, xb, xx, xy, rfl, s20⟩
      have s620 := s619.trans s20
      have u3c := u3b.same s20
      have u4c := u4b.same s20
      have s1020 : Same H10 H20 := s1014.trans (s1418.trans (s19.trans s20))
      obtain ⟨r3, ks3, e31, e32, e33⟩ := u3c.at (i := m - 1) (by omega)
      have n3 : H10 r3 = none := hn3 _ (List.mem_of_getElem? e31)
      refine ⟨_, rfl, _, rfl, _, _, rfl, rfl, p3, _, _, _, rfl, rfl, SqL.of u3c.top, at_of (j := m - 1) (v := .ref r3) (by omega) (by rw [List.getElem?_map, e31]; rfl), .inl ⟨rfl, _, SqL.of e33⟩, r3, _, _, rfl, rfl, e33, ?_, ?_⟩
      · obtain ⟨x1, _⟩ := nf _ _ e32
        rw [List.length_map]
        exact small1000 (by omega)
      have s1021 : Same H10 (upd H20 r3 (.lst (ks3.map V.int ++ [.non]))) := fun b o' e => by
        rw [upd_ne (ne_of_none e n3)]
        exact s1020 b o' e
      obtain ⟨r4, ks4, e41, e42, e43⟩ := u4c.at (i := 0) (by omega)
      have n4 : H11 r4 = none := hn4 _ (List.mem_of_getElem? e41)
      have n4' : H10 r4 = none := s11.free n4
      have r34 : r4 ≠ r3 := fun z => by
        have h3 := u3.row _ _ _ e31 e32
        rw [← z, n4] at h3
        cases h3
      have p43 : p4 ≠ r3 := fun z => by
        have h3 := u3.row _ _ _ e31 e32
        rw [← z, hp4] at h3
        cases h3
      have top4 : (upd H20 r3 (.lst (ks3.map V.int ++ [.non]))) p4 = some (.lst (ps4.map V.ref)) := by
        rw [upd_ne p43]
        exact u4c.top
      have row4 : (upd H20 r3 (.lst (ks3.map V.int ++ [.non]))) r4 = some (.lst (ks4.map V.int)) := by
        rw [upd_ne r34]
        exact e43
      generalize upd H20 r3 (.lst (ks3.map V.int ++ [.non])) = H21 at s1021 top4 row4
      refine ⟨_, rfl, p4, _, _, _, rfl, rfl, SqL.of top4, at_of (j := 0) (v := .ref r4) rfl (by rw [List.getElem?_map, e41]; rfl), .inl ⟨rfl, _, SqL.of row4⟩, r4, _, _, rfl, rfl, row4, ?_, ?_⟩
      · obtain ⟨x1, _⟩ := lf _ _ e42
        rw [List.length_map]
        exact small1000 (by omega)
      have s1022 : Same H10 (upd H21 r4 (.lst (ks4.map V.int ++ [.non]))) := fun b o' e => by
        rw [upd_ne (ne_of_none e n4')]
        exact s1021 b o' e
      generalize upd H21 r4 (.lst (ks4.map V.int ++ [.non])) = H22 at s1022
      have s622 := s610.trans s1022
      refine ⟨_, rfl, _, rfl, _, rfl, k, c, Lo, rs, kss, l, rfl, k2, k9, t6.same s622, fine, m1, m40, s622 _ _ hLo, lot', fun p5 ps5 H23 s23 u5 _ _ _ => ?_⟩
      have s623 := s622.trans s23
      refine ⟨_, rfl, _, rfl, c, Lo, rs, kss, k, l, rfl, t6.same s623, fine, s623 _ _ hLo, lnd, lot'.low, by omega, fun p6 ps6 H24 s24 u6 _ _ _ => ?_⟩
      have s624 := s623.trans s24
      refine ⟨tabP (namedK kss l), tabP (namedK kss l), (u5.same s24).dp, u6.dp, shaped_tab _, shaped_tab _, _, rfl, ?_⟩
      rw [eqv_tab, decide_eq_true rfl]
      refine iteT ⟨_, rfl, .ref c, tabP kss, rfl, (t6.same s624).dt, fi1, fi2, fi3, _, rfl, rfl, ?_⟩
      rw [decide_eq_true rfl]
      exact q _ (b06.trans (.of s624))
end
end K2

namespace K2
open PySem PySem.Spec PyProof.Rows L2 GL
abbrev sRight : Stmt := topS 51
theorem neNil_of {cs : List (Nat × Nat)} {f : Nat × Nat → Bool} (h : ∀ c ∈ cs, f c = false) : cs.filter f = [] := List.filter_eq_nil_iff.mpr fun c hc => by rw [h c hc]; decide
section
variable {P : Program} {w : World} {K : PySem.W.Frag} {mg : Str → Option Value} {base : Heap}
abbrev nRight : List Str := ["_law_generator_here", "_law_kinds", "_law_many", "_law_company_here", "_law_mate", "_law_due", "_law_couple", "_law_told", "_law_unlike", "_law_kind"]
theorem scRight : FnScope nRight ["_law_generator_here"] (defScope sRight) := ⟨rfl, rfl, rfl, by decide +kernel, rfl, by decide +kernel, by decide +kernel⟩
def spRight : Sp := fun vs H Q _ => ∃ (g : Addr) (n : Nat), vs = [.ref g] ∧ Gen H g (n + 60000) ∧ ∀ H', But g H H' → Q (.bl true) H'
abbrev KOO : List Str := ["kinds", "one", "other"]
theorem ok_right {f : Addr} {fd : FuncData} (F : Fun K "_law_right" "_law_right" sRight f fd) (T : Bi mg) (U : Use P w K mg base "_law_random" ["_law_generator_here", "_law_bound"] spRandom 2) (UC : Use P w K mg base "_law_company" ["_law_generator_here", "_law_kinds", "_law_many"] spCompany 4)
    (UL : Use P w K mg base "_law_couples" ["_law_many"] spCouples 1) (UA : Use P w K mg base "_law_alike" ["_law_company_here", "_law_one", "_law_other"] spAlike2 2) (UY : Use P w K mg base "_law_yes" ["_law_told", "_law_due"] spYes 1) (UT : Use P w K mg base "_law_tie" ["_law_company_here", "_law_one", "_law_other"] spTie 1)
    (PA : Use P w K mg base "alike_couples" ["kinds", "company"] spAlikes 6) (PT' : Use P w K mg base "tie" KCC spTieP 6) (PS' : Use P w K mg base "stand_alike" KCC spStand 6) (PD : Use P w K mg base "differing" KOO spDiffer 7) (UR : UseG P w K mg base "_law_lists_right" ["_law_generator_here", "_law_kinds", "_law_company_here"] spLists 7)
    (KA : UseK P w K mg base "alike_couples" ["kinds", "company"] ["company", "kinds"] gK2 gKV2 spAlikes 6) (KT : UseK P w K mg base "tie" KCC ["couple", "company", "kinds"] gK gKV spTieP 6) (KS : UseK P w K mg base "stand_alike" KCC ["couple", "company", "kinds"] gK gKV spStand 6)
    (KD : UseK P w K mg base "differing" KOO ["other", "one", "kinds"] gK gKV spDiffer 7) : FnG P w K mg base CX0 8 f fd ["_law_generator_here"] spRight := by
  obtain ⟨fa, fda, FA, ma, ka, ba⟩ := KA
  obtain ⟨ft, fdt, FT, mt, kt, bt⟩ := KT
  obtain ⟨fs, fds, FS, ms, ks, bs⟩ := KS
  obtain ⟨fdd, fddd, FD, md, kd, bd⟩ := KD
  refine FnG.mk' F scRight (fun vs H Q E h => ?_) (fun cdv A outer s H vs Q E hgd hr h => ?_)
  · obtain ⟨g, n, rfl, _⟩ := h
    rfl
  · obtain ⟨g, n, rfl, G, q⟩ := h
    have hr1 : Room 1 (A.deeper (envOfC "_law_right" (defScope sRight) s.heap.objs.size f cdv)) := hr.mono (by decide)
    have hr2 : Room 2 (A.deeper (envOfC "_law_right" (defScope sRight) s.heap.objs.size f cdv)) := hr.mono (by decide)
    have hr4 : Room 4 (A.deeper (envOfC "_law_right" (defScope sRight) s.heap.objs.size f cdv)) := hr.mono (by decide)
    have hr6 : Room 6 (A.deeper (envOfC "_law_right" (defScope sRight) s.heap.objs.size f cdv)) := hr.mono (by decide)
    have hgd' : (A.deeper (envOfC "_law_right" (defScope sRight) s.heap.objs.size f cdv)).guards = some [] := hgd
    have h65 : (A.deeper (envOfC "_law_right" (defScope sRight) s.heap.objs.size f cdv)).units + 65 < cLine := by
      have := hr.un
      omega
    refine ⟨_, pss_cons (ps_par (i := 1) (j := 2) rfl scRight.nd rfl rfl (by decide) rfl rfl (pa_cons (pe_op op_add pe_int (pe_use U hr2 (by rfl) (pa_cons (pv 0) (pa_cons pe_int pa_nil)))) (pa_cons (pe_op op_add pe_int (pe_use U hr2 (by rfl) (pa_cons (pv 0) (pa_cons pe_int pa_nil)))) pa_nil)) (by rfl))
      (pss_cons (ps_asg (pe_tup (pa_cons (pe_use UC hr4 (by rfl) (pa_cons (pv 0) (pa_cons (pv 1) (pa_cons (pv 2) pa_nil)))) (pa_cons (pe_use UC hr4 (by rfl) (pa_cons (pv 0) (pa_cons (pv 1) (pa_cons (pv 2) pa_nil)))) pa_nil)))
          (pg_tup rfl (pgs_cons (pg_name (i := 3) scRight.nd rfl (Or.inr rfl)) (pgs_cons (pg_name (i := 4) scRight.nd rfl (Or.inl rfl)) pgs_nil))))
      (pss_cons (ps_setLc (i := 5) (own := [("_law_couple", 6)]) (g := gName 6) (tt := tTest (tCall spAlike2 [] E0 (tCons (tVar 3) (tCons (tOp (rIxT K) (tVar 6) (tC (.int 0))) (tCons (tOp (rIxT K) (tVar 6) (tC (.int 1))) tNil))))) rfl scRight.nd rfl rfl (sw_true rfl rfl rfl (by decide +kernel)) (pi_list (pe_use UL hr1 (by rfl) (pa_cons (pv 2) pa_nil))) (blkOk_by (N := nRight) (sc := defScope sRight) (by decide +kernel)) (fun _ _ _ _ _ => pg_name (i := 6) scRight.nd rfl (Or.inl rfl))
          (fun _ _ _ _ _ => by exact (pts_one (pt_val (pe_use UA hr2 (by rfl) (pa_cons (pv 3) (pa_cons (pe_ix ix_tup (pv 6) pe_int (fun _ _ => rfl)) (pa_cons (pe_ix ix_tup (pv 6) pe_int (fun _ _ => rfl)) pa_nil))))))) (fun _ _ _ _ _ => pv 6))
      (pss_cons (ps_set (i := 7) scRight.nd rfl (Or.inl rfl) (pe_use PA hr6 (by rfl) (pa_cons (pv 1) (pa_cons (pv 3) pa_nil))))
      (pss_cons (ps_if (PW.pt (pw_or (pt_cmpR (op_neD hr.units) (pv 7) (pv 5) (nomark _)) (pw_or1 (pt_cmpR (op_neD hr.units) (pe_kws FA hr6 (by rfl) ma ka ba pass0 (pk_cons (pv 3) (pk_cons (pv 1) pk_nil))) (pv 5) (nomark _))))) (pss_one (ps_ret pe_bl)) pss_nil)
      (pss_cons (ps_expr (pe_bm PySem.F.plainAttrs_list PySem.F.slot_list_append PySem.F.type_list_append mt_append (pv 7) (pa_cons pe_non pa_nil)))
      (pss_cons (ps_set (i := 8) scRight.nd rfl (Or.inl rfl) (pe_lst pa_nil))
      (pss_cons (ps_for PassesOwn.never rfl (pi_list (pe_use UL hr1 (by rfl) (pa_cons (pv 2) pa_nil))) (pg_name (i := 6) scRight.nd rfl (Or.inl rfl))
        (pss_cons (ps_set (i := 9) scRight.nd rfl (Or.inl rfl) (pe_use UT hr1 (by rfl) (pa_cons (pv 3) (pa_cons (pe_ix ix_tup (pv 6) pe_int (fun _ _ => rfl)) (pa_cons (pe_ix ix_tup (pv 6) pe_int (fun _ _ => rfl)) pa_nil)))))
        (pss_cons (ps_if (PW.pt (pw_or (pt_cmpR op_ne (pe_use PT' hr6 (by rfl) (pa_cons (pv 1) (pa_cons (pv 3) (pa_cons (pv 6) pa_nil)))) (pv 9) (nomark _)) (pw_or1 (pt_cmpR op_ne (pe_kws FT hr6 (by rfl) mt kt bt pass0 (pk_cons (pv 6) (pk_cons (pv 3) (pk_cons (pv 1) pk_nil)))) (pv 9) (nomark _))))) (pss_one (ps_ret pe_bl)) pss_nil)
        (pss_cons (ps_if (pt_not (pt_val (pe_use UY hr1 (by rfl) (pa_cons (pe_use PS' hr6 (by rfl) (pa_cons (pv 1) (pa_cons (pv 3) (pa_cons (pv 6) pa_nil)))) (pa_cons (pe_cmpR (op_inD h65) (pv 6) (pv 5) (by rfl)) pa_nil))))) (pss_one (ps_ret pe_bl)) pss_nil)
        (pss_cons (ps_if (pt_not (pt_val (pe_use UY hr1 (by rfl) (pa_cons (pe_kws FS hr6 (by rfl) ms ks bs pass0 (pk_cons (pv 6) (pk_cons (pv 3) (pk_cons (pv 1) pk_nil)))) (pa_cons (pe_cmpR (op_inD h65) (pv 6) (pv 5) (by rfl)) pa_nil))))) (pss_one (ps_ret pe_bl)) pss_nil)
        (pss_one (ps_set (i := 8) scRight.nd rfl (Or.inl rfl) (pe_op op_cat (pv 8) (pe_op op_rep (pe_lst (pa_cons (pv 6) pa_nil)) (pe_callTy call_int1 (by rfl) T.int PyProof.Rows.boot_int (pa_cons (pe_cmpR op_ne (pv 9) (pe_use UT hr1 (by rfl) (pa_cons (pv 4) (pa_cons (pe_ix ix_tup (pv 6) pe_int (fun _ _ => rfl)) (pa_cons (pe_ix ix_tup (pv 6) pe_int (fun _ _ => rfl)) pa_nil)))) (nomark _)) pa_nil)))))))))))
      (pss_cons (ps_set (i := 7) scRight.nd rfl (Or.inl rfl) (pe_use PD hr (by rfl) (pa_cons (pv 1) (pa_cons (pv 3) (pa_cons (pv 4) pa_nil)))))
      (pss_cons (ps_if (PW.pt (pw_or (pt_cmpR (op_neD hr.units) (pv 7) (pv 8) (nomark _)) (pw_or1 (pt_cmpR (op_neD hr.units) (pe_kws FD hr (by rfl) md kd bd pass0 (pk_cons (pv 3) (pk_cons (pv 4) (pk_cons (pv 1) pk_nil)))) (pv 8) (nomark _))))) (pss_one (ps_ret pe_bl)) pss_nil)
      (pss_cons (ps_if (pt_cmpR (op_neNil hr.units) (pe_use PD hr (by rfl) (pa_cons (pv 1) (pa_cons (pv 4) (pa_cons (pv 4) pa_nil)))) (pe_lst pa_nil) (nomark _)) (pss_one (ps_ret pe_bl)) pss_nil)
      (pss_cons (ps_expr (pe_bm PySem.F.plainAttrs_list PySem.F.slot_list_append PySem.F.type_list_append mt_append (pv 7) (pa_cons pe_non pa_nil)))
      (pss_one (ps_ret (pe_and (pe_cmpR (op_eqD hr.units) (pe_use PD hr (by rfl) (pa_cons (pv 1) (pa_cons (pv 3) (pa_cons (pv 4) pa_nil)))) (pv 8) (nomark _)) (pe_one (pe_useG UR hgd' hr (by rfl) (pa_cons (pv 0) (pa_cons (pv 1) (pa_cons (pv 3) pa_nil))))))))))))))))))), ?_⟩
    refine ⟨_, rfl, g, 8, n + 59995, rfl, by decide, by decide, G, fun r H1 r0 r1 G1 b1 => ⟨_, _, rfl, rfl, ?_⟩⟩
    refine ⟨_, rfl, g, 9, n + 59990, rfl, by decide, by decide, G1, fun r2 H2 q0 q1 G2 b2 => ⟨_, _, rfl, rfl, _, _, rfl, ?_⟩⟩
    obtain ⟨u, rfl⟩ : ∃ u : Nat, r2 = (u : Int) := ⟨r2.toNat, by omega⟩
    obtain ⟨m, hm⟩ : ∃ m : Nat, 1 + (u : Int) = (m : Int) := ⟨1 + u, by omega⟩
    dsimp only
    rw [hm]
    refine ⟨_, rfl, _, rfl, _, rfl, g, 2 + r, m, n + 39990, rfl, by omega, by omega, by omega, by omega, G2, fun c H3 b3 G3 co => ?_⟩
    refine ⟨_, rfl, _, rfl, _, rfl, g, 2 + r, m, n + 19990, rfl, by omega, by omega, by omega, by omega, G3, fun d H4 b4 G4 co2 => ?_⟩
    obtain ⟨rs, kss, t3, lk, fine, nc, nc0, nr0⟩ := co.ex
    obtain ⟨ps, lss, t4, ll, fine2, nd, nd0, np0⟩ := co2.ex
    have cg : c ≠ g := (G2.ne nc0).symm
    have gr : g ∉ rs := notin_new G2 nr0
    have dg : d ≠ g := (G3.ne nd0).symm
    have gp : g ∉ ps := notin_new G3 np0
    have t3' := t3.but b4 cg gr
    have k2 : (2 : Int) ≤ 2 + r := by omega
    have k9 : 2 + r ≤ 9 := by omega
    have m1 : 1 ≤ kss.length := by omega
    have m40 : kss.length ≤ 40 := by omega
    refine ⟨(by show 2 ≤ sizeLine; decide), fun tp htp => ?_⟩
    obtain ⟨H5, q5, s5, f5⟩ := gen H4 htp (.tup [.ref c, .ref d])
    rw [q5]
    clear q5
    refine ⟨tp, _, rfl, SqT.of f5, rfl, _, _, rfl, _, _, rfl, rfl, ?_⟩
    have tc := t3'.same s5
    have td := t4.same s5
    have b05 : But g H H5 := b1.trans (b2.trans (b3.trans (b4.trans (.of s5))))
    have G5 : Gen H5 g (n + 2000) := (G4.same s5).less (by omega)
    -- who stands alike
    refine ⟨_, rfl, m, rfl, by omega, fun L ts H6 s6 nL R6 ec => ?_⟩
    refine ⟨L, rfl, ⟨_, SqL.of R6.top⟩, fun D hD => ?_⟩
    have tc6 := tc.same s6
    refine lc_list (K := K) (a := L) (xs := ts.map fun t => V.ref t.1) (fun j H7 => Same H6 H7 ∧ H7 D = some (.lst (((ts.take j).filter fun t => alikeB kss t.2.1 t.2.2).map fun t => V.ref t.1))) ⟨same_new hD, upd_same⟩ (fun j H7 _ z => SqL.of (z.1 _ _ R6.top)) ?_ ?_
    · rintro j y H7 hj ⟨s7, h7⟩
      rw [List.getElem?_map] at hj
      cases e : ts[j]? with
      | none =>
        rw [e] at hj
        cases hj
      | some v =>
        rw [e] at hj
        cases hj
        have um := List.mem_of_getElem? e
        have jl := (List.getElem?_eq_some_iff.mp e).1
        have hv : v.2 ∈ cplTo m m := by rw [← ec]; exact List.mem_map_of_mem um
        obtain ⟨w1, w2, w3⟩ := (cpl_mem m m v.2.1 v.2.2).mp hv
        have hrow := s7 _ _ (R6.row v um)
        have tk : (ts.take (j + 1)).filter (fun t => alikeB kss t.2.1 t.2.2) = (ts.take j).filter (fun t => alikeB kss t.2.1 t.2.2) ++ (if alikeB kss v.2.1 v.2.2 then [v] else []) := by
          rw [List.take_add_one, e, List.filter_append]
          congr 1
          show [v].filter _ = _
          cases h : alikeB kss v.2.1 v.2.2 <;> simp [h]
        have lts : ts.length ≤ 81 := by
          have h1 := congrArg List.length ec
          rw [List.length_map] at h1
          have h2 := cpl_len m m
          have h3 : m * m ≤ 9 * 9 := Nat.mul_le_mul (by omega) (by omega)
          omega
        refine ⟨rfl, ?_⟩
        refine ⟨_, rfl, _, rfl, v.1, _, _, _, rfl, rfl, SqT.of hrow, (by rfl : atI (pairT v.2) 0 = some (.int (v.2.1 : Nat))), _, rfl, v.1, _, _, _, rfl, rfl, SqT.of hrow, (by rfl : atI (pairT v.2) 1 = some (.int (v.2.2 : Nat))), c, rs, kss, 2 + r, v.2.1, v.2.2, rfl, tc6.same s7, fine, by omega, by omega, by omega, _, rfl, ?_⟩
        cases ha : alikeB kss v.2.1 v.2.2 with
        | false =>
          refine iteF ⟨s7, ?_⟩
          rw [tk, ha, if_neg (by decide), List.append_nil]
          exact h7
        | true =>
          refine iteT ⟨_, rfl, _, h7, ?_, fun b o e' => ?_, ?_⟩
          · rw [List.length_map]
            have := List.length_filter_le (fun t : Addr × Nat × Nat => alikeB kss t.2.1 t.2.2) (ts.take j)
            rw [List.length_take] at this
            exact small1000 (by omega)
          · rw [upd_ne (ne_of_none e' hD)]
            exact s7 b o e'
          · rw [upd_same, tk, ha, List.map_append]
            rfl
    rintro H7 ⟨s7, h7⟩
    rw [List.length_map, List.take_length] at h7
    obtain ⟨ds, hds⟩ : ∃ ds, ts.filter (fun t => alikeB kss t.2.1 t.2.2) = ds := ⟨_, rfl⟩
    rw [hds] at h7
    have dsm : ds.map (·.2) = (cplTo m m).filter (fun c => alikeB kss c.1 c.2) := by
      rw [← hds, ← ec, List.filter_map]
      rfl
    have drow : ∀ {H : Hp}, Same H7 H → ∀ t ∈ ds, H t.1 = some (.tup (pairT t.2)) := fun s t ht => s _ _ (s7 _ _ (R6.row t (by rw [← hds] at ht; exact (List.mem_filter.mp ht).1)))
    obtain ⟨dc, hdc⟩ : ∃ dc : List (Nat × Nat), (cplTo m m).filter (fun c => alikeB kss c.1 c.2) = dc := ⟨_, rfl⟩
    have dueD : ∀ {H : Hp}, Same H7 H → Dp K H (.ref D) (cplP dc) := fun s => by
      have e := dsm.trans hdc
      rw [← e]
      exact dp_cpl (s _ _ h7) (drow s)
    have s57 := s6.trans s7
    have tc7 := tc.same s57
    have td7 := td.same s57
    have km : kss.length = m := lk
    -- told
    refine ⟨_, rfl, _, rfl, 2 + r, c, rs, kss, rfl, k2, k9, tc7, fine, m1, m40, fun La as H8 s8 nLa RA ea => ?_⟩
    rw [km, hdc] at ea
    refine ⟨_, rfl, _, rfl, _, cplP dc, RA.dp, dueD s8, shaped_cpl _, shaped_cpl _, _, rfl, ?_⟩
    rw [eqv_cpl, decide_eq_true ea]
    refine iteF ?_
    refine ⟨_, rfl, _, rfl, 2 + r, c, rs, kss, rfl, k2, k9, tc7.same s8, fine, m1, m40, fun Lb bs' H9 s9 _ RB eb => ?_⟩
    rw [km, hdc] at eb
    refine ⟨_, rfl, _, cplP dc, RB.dp, dueD (s8.trans s9), shaped_cpl _, shaped_cpl _, _, rfl, ?_⟩
    rw [eqv_cpl, decide_eq_true eb]
    refine iteF ?_
    have las : as.length ≤ 81 := by
      have h1 := congrArg List.length ea
      rw [List.length_map] at h1
      have h2 := cpl_len m m
      have h3 : m * m ≤ 9 * 9 := Nat.mul_le_mul (by omega) (by omega)
      have h4 := List.length_filter_le (fun c : Nat × Nat => alikeB kss c.1 c.2) (cplTo m m)
      rw [hdc] at h4
      omega
    refine ⟨_, rfl, .inl ⟨rfl, _, SqL.of (s9 _ _ RA.top)⟩, La, _, _, rfl, rfl, s9 _ _ RA.top, ?_, ?_⟩
    · rw [List.length_map]
      exact small1000 (by omega)
    have s10 : Same H7 (upd H9 La (.lst ((as.map fun t => V.ref t.1) ++ [.non]))) := fun b o e => by
      rw [upd_ne (ne_of_none e nLa)]
      exact s9 b o (s8 b o e)
    generalize upd H9 La (.lst ((as.map fun t => V.ref t.1) ++ [.non])) = H10 at s10
    refine ⟨Nat.zero_le _, fun U0 hU0 => ?_⟩
    obtain ⟨H11, q11, s11, f11⟩ := gen H10 hU0 (.lst [])
    rw [q11]
    clear q11
    have s711 := s10.trans s11
    refine ⟨_, rfl, m, rfl, by omega, fun L2 us H12 s12 nL2 R12 ec2 => ?_⟩
    have s712 := s711.trans s12
    have lus : us.length ≤ 81 := by
      have h1 := congrArg List.length ec2
      rw [List.length_map] at h1
      have h2 := cpl_len m m
      have h3 : m * m ≤ 9 * 9 := Nat.mul_le_mul (by omega) (by omega)
      omega
    refine ⟨L2, rfl, ⟨_, SqL.of R12.top⟩, ?_⟩
    refine for_list (K := K) (a := L2) (xs := us.map fun t => V.ref t.1) (fun i σ H' => ∃ (a b : Option V) (Un : Addr) (vs : List (Addr × Nat × Nat)), σ = [some (V.ref g), some (.int (2 + r)), some (.int (m : Int)), some (.ref c), some (.ref d), some (.ref D), a, some (.ref La), some (.ref Un), b] ∧ Same H12 H' ∧
        H' Un = some (.lst (vs.map fun t => V.ref t.1)) ∧ (∀ t ∈ vs, t ∈ us) ∧ vs.map (·.2) = ((us.map (·.2)).take i).filter (fun c => !decide (tieN kss c.2 c.1 = tieN lss c.2 c.1)) ∧ vs.length ≤ i)
      ⟨none, none, U0, [], rfl, Same.refl _, s12 _ _ f11, by simp, rfl, Nat.le_refl _⟩ (fun i σ H' _ z => by
        obtain ⟨_, _, _, _, _, s', _⟩ := z
        exact SqL.of (s' _ _ R12.top)) ?_ ?_
    · rintro i y σ H13 hi ⟨xa, xb, Un, vs, rfl, s13, hUn, vin, ev, lv⟩
      rw [List.getElem?_map] at hi
      cases e : us[i]? with
      | none =>
        rw [e] at hi
        cases hi
      | some v =>
        rw [e] at hi
        cases hi
        have um := List.mem_of_getElem? e
        have il := (List.getElem?_eq_some_iff.mp e).1
        have hv : v.2 ∈ cplTo m m := by rw [← ec2]; exact List.mem_map_of_mem um
        obtain ⟨w1, w2, w3⟩ := (cpl_mem m m v.2.1 v.2.2).mp hv
        have hrow := s13 _ _ (R12.row v um)
        have s713 := s712.trans s13
        have tc13 := tc7.same s713
        have td13 := td7.same s713
        have at0 : atI (pairT v.2) 0 = some (.int (v.2.1 : Nat)) := rfl
        have at1 : atI (pairT v.2) 1 = some (.int (v.2.2 : Nat)) := rfl
        refine ⟨_, rfl, _, rfl, v.1, _, _, _, rfl, rfl, SqT.of hrow, at0, _, rfl, v.1, _, _, _, rfl, rfl, SqT.of hrow, at1, c, rs, kss, 2 + r, v.2.1, v.2.2, rfl, tc13, fine, by omega, by omega, by omega, ?_⟩
        have cm : tieN kss v.2.1 v.2.2 = tieN kss v.2.2 v.2.1 := tieN_comm ..
        rw [cm]
        have ask : ∀ {H : Hp}, Same H13 H → AskC H [.int (2 + r), .ref c, .ref v.1] kss v.2 := fun s => ⟨⟨2 + r, c, v.1, rs, rfl, k2, k9, tc13.same s, fine, s _ _ hrow⟩, m1, m40, w2, by omega⟩
        refine ⟨_, rfl, _, rfl, _, rfl, kss, v.2, ask (Same.refl _), fun H14 s14 => ⟨_, rfl, rfl, _, rfl, iteNS rfl ?_⟩⟩
        refine ⟨_, rfl, _, rfl, _, rfl, kss, v.2, ask s14, fun H15 s15 => ⟨_, rfl, rfl, _, rfl, iteNS rfl ?_⟩⟩
        have s1315 := s14.trans s15
        have inD : ∀ {H : Hp}, Same H13 H → (dc.map cT).any (fun z => PyData.eqv z (cT v.2)) = alikeB kss v.2.1 v.2.2 := fun _ => by
          rw [any_cpl, ← hdc]
          by_cases ha : alikeB kss v.2.1 v.2.2 = true
          · rw [ha, decide_eq_true (List.mem_filter.mpr ⟨hv, ha⟩)]
          · have no : ¬ v.2 ∈ (cplTo m m).filter (fun c => alikeB kss c.1 c.2) := fun z => ha (List.mem_filter.mp z).2
            rw [decide_eq_false no]
            cases h : alikeB kss v.2.1 v.2.2 with
            | false => rfl
            | true => exact (ha h).elim
        refine ⟨_, rfl, _, rfl, _, rfl, kss, v.2, ask s1315, fun H16 s16 => ?_⟩
        have s1316 := s1315.trans s16
        refine ⟨_, rfl, _, rfl, cT v.2, _, dp_pair (s1316 _ _ hrow), dueD (s713.trans s1316), shaped_cT _, shaped_cpl _, ?_⟩
        rw [inD s1316]
        refine ⟨alikeB kss v.2.1 v.2.2, rfl, _, rfl, iteF ?_⟩
        refine ⟨_, rfl, _, rfl, _, rfl, kss, v.2, ask s1316, fun H17 s17 => ?_⟩
        have s1317 := s1316.trans s17
        refine ⟨_, rfl, _, rfl, cT v.2, _, dp_pair (s1317 _ _ hrow), dueD (s713.trans s1317), shaped_cT _, shaped_cpl _, ?_⟩
        rw [inD s1317]
        refine ⟨alikeB kss v.2.1 v.2.2, rfl, _, rfl, iteF ?_⟩
        -- the unlike ones
        refine ⟨_, rfl, _, rfl, one_le, fun z1 hz1 => ?_⟩
        obtain ⟨H18, q18, s18, f18⟩ := gen H17 hz1 (.lst [.ref v.1])
        rw [q18]
        clear q18
        have s1318 := s1317.trans s18
        have hrow18 := s1318 _ _ hrow
        refine ⟨_, rfl, _, rfl, _, rfl, v.1, _, _, _, rfl, rfl, SqT.of hrow18, at0, _, rfl, v.1, _, _, _, rfl, rfl, SqT.of hrow18, at1, d, ps, lss, 2 + r, v.2.1, v.2.2, rfl, td13.same s1318, fine2, by omega, by omega, by omega, rfl, ?_⟩
        have eb : (!decide (V.int (tieN kss v.2.2 v.2.1) = V.int (tieN lss v.2.1 v.2.2))) = !decide (tieN kss v.2.2 v.2.1 = tieN lss v.2.2 v.2.1) := by
          rw [tieN_comm lss v.2.1 v.2.2]
          by_cases q : tieN kss v.2.2 v.2.1 = tieN lss v.2.2 v.2.1
          · simp [q]
          · simp [q]
        rw [eb]
        have tk : ((us.map (·.2)).take (i + 1)).filter (fun c => !decide (tieN kss c.2 c.1 = tieN lss c.2 c.1)) = ((us.map (·.2)).take i).filter (fun c => !decide (tieN kss c.2 c.1 = tieN lss c.2 c.1)) ++ (if (!decide (tieN kss v.2.2 v.2.1 = tieN lss v.2.2 v.2.1)) = true then [v.2] else []) :=
          cpl_take (c := v.2) (f := fun c => !decide (tieN kss c.2 c.1 = tieN lss c.2 c.1)) (by rw [List.getElem?_map, e]; rfl)
        refine .inr ⟨_, rfl, z1, _, _, rfl, rfl, f18, ?_, ?_, ?_, fun p hp => ?_⟩
        · cases (!decide (tieN kss v.2.2 v.2.1 = tieN lss v.2.2 v.2.1)) <;> decide
        · cases (!decide (tieN kss v.2.2 v.2.1 = tieN lss v.2.2 v.2.1)) <;> decide
        · cases (!decide (tieN kss v.2.2 v.2.1 = tieN lss v.2.2 v.2.1)) <;> (show 1 * _ ≤ sizeLine; decide)
        obtain ⟨ws, hws, wl, wm⟩ : ∃ ws : List (Addr × Nat × Nat), (List.replicate (if (!decide (tieN kss v.2.2 v.2.1 = tieN lss v.2.2 v.2.1)) = true then (1 : Int) else 0).toNat [V.ref v.1]).flatten = ws.map (fun t => V.ref t.1) ∧ ws.length ≤ 1 ∧ (∀ t ∈ ws, t = v) ∧ ws.map (·.2) = (if (!decide (tieN kss v.2.2 v.2.1 = tieN lss v.2.2 v.2.1)) = true then [v.2] else []) := by
          cases (!decide (tieN kss v.2.2 v.2.1 = tieN lss v.2.2 v.2.1)) with
          | true => exact ⟨[v], rfl, Nat.le_refl _, by simp, rfl⟩
          | false => exact ⟨[], rfl, Nat.zero_le _, by simp, rfl⟩
        rw [hws]
        obtain ⟨H19, q19, s19, f19⟩ := gen H18 hp (.lst (ws.map fun t => V.ref t.1))
        rw [q19]
        clear q19
        have s1319 := s1318.trans s19
        refine ⟨Un, p, _, _, rfl, rfl, s1319 _ _ hUn, f19, ?_, fun p2 hp2 => ?_⟩
        · rw [List.length_map, List.length_map]
          exact Nat.le_of_lt (small1000 (by omega))
        obtain ⟨H20, q20, s20, f20⟩ := gen H19 hp2 (.lst ((vs.map fun t => V.ref t.1) ++ (ws.map fun t => V.ref t.1)))
        rw [q20]
        clear q20
        refine ⟨_, _, p2, vs ++ ws, rfl, s13.trans (s1319.trans s20), by rw [f20, List.map_append], fun t ht => ?_, ?_, ?_⟩
        · rcases List.mem_append.mp ht with ht | ht
          · exact vin t ht
          · rw [wm.1 t ht]
            exact um
        · rw [List.map_append, ev, tk, wm.2]
        · rw [List.length_append]
          omega
    · rintro σ H13 ⟨xa, xb, Un, vs, rfl, s13, hUn, vin, ev, lv⟩
      rw [List.length_map, ← List.length_map (as := us) (f := (·.2)), List.take_length, ec2] at ev
      have s713 := s712.trans s13
      have tc13 := tc7.same s713
      have td13 := td7.same s713
      have unD : ∀ {H : Hp}, Same H13 H → Dp K H (.ref Un) (cplP (vs.map (·.2))) := fun s => dp_cpl (s _ _ hUn) fun t ht => s _ _ (s13 _ _ (R12.row t (vin t ht)))
      have lml : lss.length = kss.length := by omega
      refine ⟨_, rfl, _, rfl, _, rfl, 2 + r, c, d, rs, ps, kss, lss, rfl, k2, k9, tc13, td13, fine, fine2, m1, m40, lml, fun Ld es H14 s14 nLd RD ed => ?_⟩
      rw [km] at ed
      refine ⟨_, rfl, _, rfl, _, _, RD.dp, unD s14, shaped_cpl _, shaped_cpl _, _, rfl, ?_⟩
      rw [eqv_cpl, decide_eq_true (by rw [ed, ev])]
      refine iteF ?_
      refine ⟨_, rfl, _, rfl, _, rfl, 2 + r, d, c, ps, rs, lss, kss, rfl, k2, k9, td13.same s14, tc13.same s14, fine2, fine, by omega, by omega, lml.symm, fun Le gs H15 s15 _ RE ee => ?_⟩
      have s1315 := s14.trans s15
      rw [lml, km] at ee
      refine ⟨_, rfl, _, _, RE.dp, unD s1315, shaped_cpl _, shaped_cpl _, _, rfl, ?_⟩
      have eqg : gs.map (·.2) = vs.map (·.2) := by
        rw [ee, ev]
        refine List.filter_congr fun c _ => ?_
        by_cases h : tieN kss c.2 c.1 = tieN lss c.2 c.1
        · simp [h]
        · have h' : ¬ tieN lss c.2 c.1 = tieN kss c.2 c.1 := fun z => h z.symm
          simp [h, h']
      rw [eqv_cpl, decide_eq_true eqg]
      refine iteF ?_
      refine ⟨_, rfl, _, rfl, _, rfl, 2 + r, d, d, ps, ps, lss, lss, rfl, k2, k9, td13.same s1315, td13.same s1315, fine2, fine2, by omega, by omega, rfl, fun Lf hs H16 s16 _ RF ef => ?_⟩
      have e0 : hs = [] := by
        have : hs.map (·.2) = [] := by rw [ef]; exact neNil_of fun c _ => by simp
        exact List.map_eq_nil_iff.mp this
      subst e0
      refine ⟨Nat.zero_le _, fun z2 hz2 => ?_⟩
      obtain ⟨H17, q17, s17, f17⟩ := gen H16 hz2 (.lst [])
      rw [q17]
      clear q17
      refine ⟨Lf, z2, [], rfl, rfl, SqL.of (s17 _ _ RF.top), SqL.of f17, _, rfl, iteF ?_⟩
      have s1417 := s15.trans (s16.trans s17)
      have les : es.length ≤ 81 := by
        have h1 := congrArg List.length ed
        rw [List.length_map] at h1
        have h2 := cpl_len m m
        have h3 : m * m ≤ 9 * 9 := Nat.mul_le_mul (by omega) (by omega)
        have h4 := List.length_filter_le (fun c : Nat × Nat => !decide (tieN kss c.2 c.1 = tieN lss c.2 c.1)) (cplTo m m)
        omega
      refine ⟨_, rfl, .inl ⟨rfl, _, SqL.of (s1417 _ _ RD.top)⟩, Ld, _, _, rfl, rfl, s1417 _ _ RD.top, ?_, ?_⟩
      · rw [List.length_map]
        exact small1000 (by omega)
      have s18 : Same H13 (upd H17 Ld (.lst ((es.map fun t => V.ref t.1) ++ [.non]))) := fun b o e => by
        rw [upd_ne (ne_of_none e nLd)]
        exact s1417 b o (s14 b o e)
      generalize upd H17 Ld (.lst ((es.map fun t => V.ref t.1) ++ [.non])) = H18 at s18
      refine ⟨_, rfl, _, rfl, _, rfl, 2 + r, c, d, rs, ps, kss, lss, rfl, k2, k9, tc13.same s18, td13.same s18, fine, fine2, m1, m40, lml, fun Lg is H19 s19 _ RG eg => ?_⟩
      rw [km] at eg
      refine ⟨_, rfl, _, _, RG.dp, unD (s18.trans s19), shaped_cpl _, shaped_cpl _, _, rfl, ?_⟩
      rw [eqv_cpl, decide_eq_true (by rw [eg, ev])]
      have s719 := s713.trans (s18.trans s19)
      have s519 := s57.trans s719
      refine iteT ⟨_, rfl, _, rfl, _, rfl, g, c, 2 + r, rs, kss, n + 1000, rfl, k2, k9, (G5.same s519).less (by omega), tc.same s519, fine, m1, m40, cg, gr, fun H20 b20 => q _ (b05.trans ((But.of s519).trans b20))⟩
end
end K2

namespace K2
open PySem PySem.Spec PyProof.Rows L2 GL
abbrev sLaw : Stmt := topS 52
def fullK (n : Nat) : List (List Int) := (List.range n).map fun j => List.replicate j 1
def altK (n : Nat) : List (List Int) := (List.range n).map fun j => List.replicate j ((j : Int) % 2)
theorem full_more (n : Nat) : fullK (n + 1) = fullK n ++ [List.replicate n 1] := by
  unfold fullK
  rw [List.range_succ, List.map_append]
  rfl
theorem alt_more (n : Nat) : altK (n + 1) = altK n ++ [List.replicate n ((n : Int) % 2)] := by
  unfold altK
  rw [List.range_succ, List.map_append]
  rfl
theorem full_len (n : Nat) : (fullK n).length = n := by
  unfold fullK
  rw [List.length_map, List.length_range]
theorem alt_len (n : Nat) : (altK n).length = n := by
  unfold altK
  rw [List.length_map, List.length_range]
theorem f1 : (cplTo 40 40).filter (fun c => alikeB (fullK 40) c.1 c.2) = cplTo 40 40 := by decide +kernel
theorem f2 : (cplTo 1 1).filter (fun c => alikeB [[]] c.1 c.2) = [] := by decide +kernel
theorem f3 : (cplTo 40 40).filter (fun c => alikeB (altK 40) c.1 c.2) = [(0, 1)] := by decide +kernel
theorem f4 : tieN (altK 40) 39 38 = 1 := by decide +kernel
theorem f5 : alikeB (altK 40) 38 39 = false := by decide +kernel
theorem f6 : namedK (fullK 40) (List.range 40) = fullK 40 := by decide +kernel
theorem fine_full : Fine 2 (fullK 40) := fine_of (by decide +kernel)
theorem fine_alt : Fine 2 (altK 40) := fine_of (by decide +kernel)
theorem one_tab {H : Hp} {p a : Addr} {k : Int} (f : Fine k [[]]) (h : H p = some (.lst [.ref a])) (ha : H a = some (.lst [])) : Tab H p [a] [[]] :=
  Tab.made f rfl h fun i r ks h1 h2 => by
    match i, h1, h2 with
    | 0, h1, h2 => cases h1; cases h2; exact ha
    | i + 1, h1, h2 => simp at h1
section
variable {P : Program} {w : World} {K : PySem.W.Frag} {mg : Str → Option Value} {base : Heap}
abbrev nLaw : List Str := ["_law_script", "_law_index", "_law_full", "_law_person", "_law_row"]
theorem scLaw : FnScope nLaw ["_law_script"] (defScope sLaw) := ⟨rfl, rfl, rfl, by decide +kernel, rfl, by decide +kernel, by decide +kernel⟩
def spLaw (K : PySem.W.Frag) : Sp := fun vs H Q _ => ∃ (a : Addr) (ns : List Int), vs = [.ref a] ∧ SqL K H a (ns.map V.int) ∧ ∀ H', Q (.bl true) H'
theorem ok_law {f : Addr} {fd : FuncData} (F : Fun K "law" "law" sLaw f fd) (T : Bi mg) (UR : UseG P w K mg base "_law_right" ["_law_generator_here"] spRight 8) (UG : Use P w K mg base "_law_generator" ["_law_script", "_law_index"] (spGen K) 2) (UL : Use P w K mg base "_law_couples" ["_law_many"] spCouples 1)
    (PA : Use P w K mg base "alike_couples" ["kinds", "company"] spAlikes 6) (PT' : Use P w K mg base "tie" KCC spTieP 6) (PS' : Use P w K mg base "stand_alike" KCC spStand 6) (PR : Use P w K mg base "renamed" KCO spRenamed 6) : FnG P w K mg base CX0 9 f fd ["_law_script"] (spLaw K) := by
  refine FnG.mk' F scLaw (fun vs H Q E h => ?_) (fun cdv A outer s H vs Q E hgd hr h => ?_)
  · obtain ⟨a, ns, rfl, _⟩ := h
    rfl
  · obtain ⟨a, ns, rfl, hS, q⟩ := h
    have hr1 : Room 1 (A.deeper (envOfC "law" (defScope sLaw) s.heap.objs.size f cdv)) := hr.mono (by decide)
    have hr2 : Room 2 (A.deeper (envOfC "law" (defScope sLaw) s.heap.objs.size f cdv)) := hr.mono (by decide)
    have hr6 : Room 6 (A.deeper (envOfC "law" (defScope sLaw) s.heap.objs.size f cdv)) := hr.mono (by decide)
    have hgd' : (A.deeper (envOfC "law" (defScope sLaw) s.heap.objs.size f cdv)).guards = some [] := hgd
    refine ⟨_, pss_cons (ps_for PassesOwn.never rfl (pi_range1 (by rfl) T.range (pa_cons pe_int pa_nil)) (pg_name (i := 1) scLaw.nd rfl (Or.inl rfl))
        (pss_one (ps_if (pt_not (pt_val (pe_useG UR hgd' hr (by rfl) (pa_cons (pe_use UG hr2 (by rfl) (pa_cons (pv 0) (pa_cons (pv 1) pa_nil))) pa_nil)))) (pss_one (ps_ret pe_bl)) pss_nil)))
      (pss_cons (ps_setLc (i := 2) (own := [("_law_person", 3)]) (g := gName 3) (tt := tYes) rfl scLaw.nd rfl rfl (sw_true rfl rfl rfl (by decide +kernel)) (pi_range1 (by rfl) T.range (pa_cons pe_int pa_nil))
          (blkOk_by (N := nLaw) (sc := defScope sLaw) (by decide +kernel)) (fun _ _ _ _ _ => pg_name (i := 3) scLaw.nd rfl (Or.inl rfl)) (fun _ _ _ _ _ => pts_nil) (fun _ _ _ _ _ => by exact (pe_op op_rep (pe_lst (pa_cons pe_int pa_nil)) (pv 3))))
      (pss_cons (ps_if (PW.pt (pw_or (pt_cmpR (op_neD hr.units) (pe_use PA hr6 (by rfl) (pa_cons pe_int (pa_cons (pv 2) pa_nil))) (pe_use UL hr1 (by rfl) (pa_cons pe_int pa_nil)) (nomark _))
          (pw_or1 (pt_cmpR (op_neNil hr.units) (pe_use PA hr6 (by rfl) (pa_cons pe_int (pa_cons (pe_lst (pa_cons (pe_lst pa_nil) pa_nil)) pa_nil))) (pe_lst pa_nil) (nomark _))))) (pss_one (ps_ret pe_bl)) pss_nil)
      (pss_cons (ps_setLc (i := 4) (own := [("_law_person", 3)]) (g := gName 3) (tt := tYes) rfl scLaw.nd rfl rfl (sw_true rfl rfl rfl (by decide +kernel)) (pi_range1 (by rfl) T.range (pa_cons pe_int pa_nil))
          (blkOk_by (N := nLaw) (sc := defScope sLaw) (by decide +kernel)) (fun _ _ _ _ _ => pg_name (i := 3) scLaw.nd rfl (Or.inl rfl)) (fun _ _ _ _ _ => pts_nil)
          (fun _ _ _ _ _ => by exact (pe_op op_rep (pe_lst (pa_cons (pe_op op_mod (pe_callTy call_int1 (by rfl) T.int PyProof.Rows.boot_int (pa_cons (pv 3) pa_nil)) pe_int) pa_nil)) (pv 3))))
      (pss_cons (ps_if (PW.pt (pw_or (pt_cmpR (op_neD hr.units) (pe_use PA hr6 (by rfl) (pa_cons pe_int (pa_cons (pv 4) pa_nil))) (pe_lst (pa_cons (pe_tup (pa_cons pe_int (pa_cons pe_int pa_nil))) pa_nil)) (nomark _))
          (pw_or (pt_cmpR op_ne (pe_use PT' hr6 (by rfl) (pa_cons pe_int (pa_cons (pv 4) (pa_cons (pe_tup (pa_cons pe_int (pa_cons pe_int pa_nil))) pa_nil)))) pe_int (nomark _))
          (pw_or1 (pt_cmpR op_notBl (pe_use PS' hr6 (by rfl) (pa_cons pe_int (pa_cons (pv 4) (pa_cons (pe_tup (pa_cons pe_int (pa_cons pe_int pa_nil))) pa_nil)))) pe_bl (nomark _)))))) (pss_one (ps_ret pe_bl)) pss_nil)
      (pss_one (ps_ret (pe_cmpR (op_eqD hr.units) (pe_use PR hr6 (by rfl) (pa_cons pe_int (pa_cons (pv 2) (pa_cons (pe_listRg rfl (by rfl) T.list (prg_1 (by rfl) T.range pe_int)) pa_nil)))) (pv 2) (nomark _)))))))), ?_⟩
    refine ⟨3, rfl, by decide, by decide, for_range (lo := 0) (n := (3 : Int).toNat) (fun i σ H' => ∃ v : Option V, σ = [some (.ref a), v, none, none, none] ∧ Same H H') ⟨none, rfl, Same.refl _⟩ ?_ ?_⟩
    · rintro i σ H' hi ⟨v, rfl, s1⟩
      have i3 : i < 3 := hi
      refine ⟨_, rfl, _, rfl, a, ns, i, (show [V.ref a, V.int (0 + (i : Int))] = [V.ref a, V.int (i : Int)] by rw [Int.zero_add]), by omega, s1.seq hS, fun g H1 sg ng G1 => ?_⟩
      refine ⟨g, 940000, rfl, G1, fun H2 b2 => ⟨_, rfl, iteF ⟨_, rfl, ?_⟩⟩⟩
      exact fun b o e => b2 b o (sg b o (s1 b o e)) (ne_of_none (s1 b o e) ng)
    rintro σ H' ⟨v, rfl, s1⟩
    -- all alike
    refine ⟨40, rfl, by decide, by decide, fun D hD => ?_⟩
    refine lc_it (walk_range (lo := 0) (n := (40 : Int).toNat)) (fun i H2 => Same H' H2 ∧ ∃ rs, Tab H2 D rs (fullK i) ∧ D ∉ rs) ⟨same_new hD, [], ⟨upd_same, rfl, fun i r ks h => by simp at h, List.nodup_nil⟩, by simp⟩ (fun _ _ _ _ => trivial) ?_ ?_
    · rintro i y I2 I3 hi ⟨s2, rs, t, nD⟩ ⟨rfl, rfl⟩
      have i40 : i < 40 := hi
      refine ⟨rfl, yes_of ?_⟩
      refine ⟨one_le, fun l nl => ?_⟩
      obtain ⟨J1, e1, r1, f1⟩ := gen I3 nl (.lst [.int 1])
      rw [e1]
      clear e1
      refine ⟨_, rfl, l, _, _, rfl, rfl, f1, by omega, by omega, ?_, fun p np => ?_⟩
      · have : ([V.int 1] : List V).length * (0 + (i : Int)).toNat ≤ 1000 := by
          show 1 * _ ≤ _
          omega
        exact Nat.le_of_lt (small1000 this)
      obtain ⟨J2, e2, r2, f2⟩ := gen J1 np (.lst (List.replicate (0 + (i : Int)).toNat [V.int 1]).flatten)
      rw [e2]
      clear e2
      have f2' : J2 p = some (.lst ((List.replicate i (1 : Int)).map V.int)) := by
        rw [f2, rep_one, show (0 + (i : Int)).toNat = i by omega]
      obtain ⟨t2, n2⟩ := t.push nD (fun r _ o e => r2 _ _ (r1 _ _ e)) (r1.free np) f2'
      have tl := t.len
      rw [full_len] at tl
      refine ⟨rs.map V.ref, r2 _ _ (r1 _ _ t.top), ?_, fun b o e => ?_, rs ++ [p], ?_, n2⟩
      · rw [List.length_map]
        exact small1000 (by omega)
      · rw [upd_ne (ne_of_none e hD)]
        exact r2 b o (r1 b o (s2 b o e))
      · rw [full_more]
        exact t2
    rintro H1 ⟨sa, rs, t, nD⟩
    have tf : Tab H1 D rs (fullK 40) := t
    have lf : (fullK 40).length = 40 := full_len 40
    refine ⟨_, rfl, 2, D, rs, fullK 40, rfl, by decide, by decide, tf, fine_full, by omega, by omega, fun La as H2 s2 _ RA ea => ?_⟩
    rw [lf, f1] at ea
    refine ⟨40, rfl, by decide, fun Lb bs' H3 s3 _ RB eb => ?_⟩
    refine ⟨_, _, (RA.same s3).dp, RB.dp, shaped_cpl _, shaped_cpl _, _, rfl, ?_⟩
    rw [eqv_cpl, decide_eq_true (by rw [ea, eb])]
    refine iteF ?_
    refine ⟨Nat.zero_le _, fun w1 x1 => ?_⟩
    obtain ⟨H4, e4, s4, f4'⟩ := gen H3 x1 (.lst [])
    rw [e4]
    clear e4
    refine ⟨one_le, fun w2 x2 => ?_⟩
    obtain ⟨H5, e5, s5, f5'⟩ := gen H4 x2 (.lst [.ref w1])
    rw [e5]
    clear e5
    have fo : Fine 2 [[]] := fine_of (by decide +kernel)
    refine ⟨2, w2, [w1], [[]], rfl, by decide, by decide, one_tab fo f5' (s5 _ _ f4'), fo, by decide, by decide, fun Lc cs H6 s6 _ RC ec => ?_⟩
    have c0 : cs = [] := List.map_eq_nil_iff.mp (ec.trans f2)
    subst c0
    refine ⟨Nat.zero_le _, fun z1 hz1 => ?_⟩
    obtain ⟨H7, e7, s7, f7⟩ := gen H6 hz1 (.lst [])
    rw [e7]
    clear e7
    refine ⟨Lc, z1, [], rfl, rfl, SqL.of (s7 _ _ RC.top), SqL.of f7, _, rfl, iteF ?_⟩
    have s17 := s2.trans (s3.trans (s4.trans (s5.trans (s6.trans s7))))
    -- one kind ahead, the other one next
    refine ⟨40, rfl, by decide, by decide, fun E2 hE => ?_⟩
    refine lc_it (walk_range (lo := 0) (n := (40 : Int).toNat)) (fun i H2 => Same H7 H2 ∧ ∃ rs, Tab H2 E2 rs (altK i) ∧ E2 ∉ rs) ⟨same_new hE, [], ⟨upd_same, rfl, fun i r ks h => by simp at h, List.nodup_nil⟩, by simp⟩ (fun _ _ _ _ => trivial) ?_ ?_
    · rintro i y I2 I3 hi ⟨s2, rs, t, nD⟩ ⟨rfl, rfl⟩
      have i40 : i < 40 := hi
      refine ⟨rfl, yes_of ?_⟩
      refine ⟨_, rfl, .inl ⟨_, rfl, _, _, rfl, rfl, (by show (0 : Int) < 2; decide), one_le, fun l nl => ?_⟩⟩
      have ez : (0 + (i : Int)) = (i : Int) := Int.zero_add _
      rw [ez]
      obtain ⟨J1, e1, r1, f1⟩ := gen I3 nl (.lst [.int ((i : Int) % 2)])
      rw [e1]
      clear e1
      refine ⟨_, rfl, l, _, _, rfl, rfl, f1, by omega, by omega, ?_, fun p np => ?_⟩
      · have : ([V.int ((i : Int) % 2)] : List V).length * (0 + (i : Int)).toNat ≤ 1000 := by
          show 1 * _ ≤ _
          omega
        exact Nat.le_of_lt (small1000 this)
      obtain ⟨J2, e2, r2, f2⟩ := gen J1 np (.lst (List.replicate (0 + (i : Int)).toNat [V.int ((i : Int) % 2)]).flatten)
      rw [e2]
      clear e2
      have f2' : J2 p = some (.lst ((List.replicate i ((i : Int) % 2)).map V.int)) := by
        rw [f2, rep_one, show (0 + (i : Int)).toNat = i by omega]
      obtain ⟨t2, n2⟩ := t.push nD (fun r _ o e => r2 _ _ (r1 _ _ e)) (r1.free np) f2'
      have tl := t.len
      rw [alt_len] at tl
      refine ⟨rs.map V.ref, r2 _ _ (r1 _ _ t.top), ?_, fun b o e => ?_, rs ++ [p], ?_, n2⟩
      · rw [List.length_map]
        exact small1000 (by omega)
      · rw [upd_ne (ne_of_none e hE)]
        exact r2 b o (r1 b o (s2 b o e))
      · rw [alt_more]
        exact t2
    rintro H8 ⟨s8, rs2, t2, nE⟩
    have ta : Tab H8 E2 rs2 (altK 40) := t2
    have la : (altK 40).length = 40 := alt_len 40
    refine ⟨_, rfl, 2, E2, rs2, altK 40, rfl, by decide, by decide, ta, fine_alt, by omega, by omega, fun Ld ds H9 s9 _ RD ed => ?_⟩
    rw [la, f3] at ed
    refine ⟨(by show 2 ≤ sizeLine; decide), fun t1 ht1 => ?_⟩
    obtain ⟨H10, e10, s10, f10⟩ := gen H9 ht1 (.tup [.int 0, .int 1])
    rw [e10]
    clear e10
    refine ⟨one_le, fun z2 hz2 => ?_⟩
    obtain ⟨H11, e11, s11, f11⟩ := gen H10 hz2 (.lst [.ref t1])
    rw [e11]
    clear e11
    refine ⟨_, cplP [(0, 1)], ((RD.same s10).same s11).dp, dp_cpl (ts := [(t1, 0, 1)]) f11 (fun t ht => by rw [List.mem_singleton] at ht; subst ht; exact s11 _ _ f10), shaped_cpl _, shaped_cpl _, _, rfl, ?_⟩
    rw [eqv_cpl, decide_eq_true ed]
    refine iteF ?_
    have s811 := s9.trans (s10.trans s11)
    refine ⟨_, rfl, (by show 2 ≤ sizeLine; decide), fun t3 ht3 => ?_⟩
    obtain ⟨H12, e12, s12, f12⟩ := gen H11 ht3 (.tup [.int 38, .int 39])
    rw [e12]
    clear e12
    have ask : ∀ {H : Hp} {t : Addr}, Tab H E2 rs2 (altK 40) → H t = some (.tup [.int 38, .int 39]) → AskC H [.int 2, .ref E2, .ref t] (altK 40) (38, 39) := fun t f => ⟨⟨2, E2, _, rs2, rfl, by decide, by decide, t, fine_alt, f⟩, by omega, by omega, by decide, by rw [la]; decide⟩
    refine ⟨altK 40, (38, 39), ask ((ta.same s811).same s12) f12, fun H13 s13 => ?_⟩
    rw [f4]
    refine ⟨rfl, _, rfl, iteNS rfl ?_⟩
    refine ⟨_, rfl, (by show 2 ≤ sizeLine; decide), fun t4 ht4 => ?_⟩
    obtain ⟨H14, e14, s14, f14⟩ := gen H13 ht4 (.tup [.int 38, .int 39])
    rw [e14]
    clear e14
    refine ⟨altK 40, (38, 39), ask ((((ta.same s811).same s12).same s13).same s14) f14, fun H15 s15 => ?_⟩
    rw [f5]
    refine ⟨_, _, rfl, rfl, _, rfl, iteNS rfl ?_⟩
    have s115 := s17.trans (s8.trans (s811.trans (s12.trans (s13.trans (s14.trans s15)))))
    refine ⟨_, rfl, _, rfl, RgOk.of_le (by omega) (by omega) (by omega) (by omega), fun l hl => ?_⟩
    obtain ⟨H16, e16, s16, f16⟩ := gen H15 hl (.lst (rgV 0 40))
    rw [e16]
    clear e16
    have fr : H16 l = some (.lst (natV (List.range 40))) := by
      rw [f16]
      exact congrArg (fun x => some (HO.lst x)) (rg_nat 40)
    refine ⟨2, D, l, rs, fullK 40, List.range 40, rfl, by decide, by decide, (tf.same s115).same s16, fine_full, by omega, by omega, fr, by rw [lf], fun p ps H17 s18 u _ _ _ => ?_⟩
    rw [f6] at u
    refine ⟨_, rfl, tabP (fullK 40), tabP (fullK 40), u.dp, (((tf.same s115).same s16).same s18).dp, shaped_tab _, shaped_tab _, ?_⟩
    rw [eqv_tab, decide_eq_true rfl]
    exact q _
end
end K2

namespace K2
open PySem PySem.Spec PyProof.Rows L2 GL
/-- a def of the text stands under its name -/
def Has (K : PySem.W.Frag) (x : Str) (st : Stmt) : Prop := ∃ (f : Addr) (oc : Value) (od : Option Addr) (kV dc pm : Value) (an : Option Addr) (cd ct : Value) (sl : Array (Option Value)), PySem.W.nsIn K mainGlobals x = some (some (.ref f)) ∧
  K.lookup f = some ⟨oc, od, .func (PySem.W.fnOf x x (defArgs st) (defBody st) (defScope st) .none kV dc pm an cd ct), sl⟩ ∧ PySem.W.codeIn K cd x = true ∧ PySem.W.keepIn K (.ref f) = true
theorem Has.fn {K : PySem.W.Frag} {x : Str} {st : Stmt} {h : Heap} {mg : Str → Option Value} (H : Has K x st) (X : K.In h) (G : h.Ns mainGlobals mg) : ∃ (f : Addr) (fd : FuncData), Fun K x x st f fd ∧ mg x = some (.ref f) := by
  obtain ⟨f, oc, od, kV, dc, pm, an, cd, ct, sl, a, l, c, k⟩ := H
  exact ⟨f, _, fun_mk (st := st) l c k, PySem.W.mg_of X G a⟩
theorem has_mk {K : PySem.W.Frag} {x : Str} {st : Stmt} {f : Addr} {oc kV dc pm cd ct : Value} {od an : Option Addr} {sl : Array (Option Value)} (a : PySem.W.nsIn K mainGlobals x = some (some (.ref f)))
    (l : K.lookup f = some ⟨oc, od, .func (PySem.W.fnOf x x (defArgs st) (defBody st) (defScope st) .none kV dc pm an cd ct), sl⟩) (c : PySem.W.codeIn K cd x = true) (k : PySem.W.keepIn K (.ref f) = true) : Has K x st := ⟨f, oc, od, kV, dc, pm, an, cd, ct, sl, a, l, c, k⟩
/-- a written number of the text -/
def HasInt (K : PySem.W.Frag) (x : Str) (n : Int) : Prop := ∃ t, PySem.W.nsIn K mainGlobals x = some (some (.int n t))
theorem hasInt_mk {K : PySem.W.Frag} {x : Str} {n : Int} {t : Tok} (a : PySem.W.nsIn K mainGlobals x = some (some (.int n t))) : HasInt K x n := ⟨t, a⟩
def HasNot (K : PySem.W.Frag) (x : Str) : Prop := PySem.W.nsIn K mainGlobals x = some none
theorem all_mk {l : PySem.W.OpenLaw} {w : World} {K : PySem.W.Frag} {h : Heap} {mg : Str → Option Value} {fa : Addr} (X : K.In h) (G : h.Ns mainGlobals mg) (hfa : mg "law" = some (.ref fa))
    (h12 : Has K "is_whole" sWhole) (h13 : Has K "is_below" sBelow) (h14 : Has K "are_kinds" sKinds) (h15 : Has K "is_row" sRow) (h16 : Has K "is_company_of" sCompOf) (h17 : Has K "is_couple" sCouple) (h18 : Has K "is_lot" sLot) (h19 : Has K "is_order" sOrderB) (h20 : Has K "check_kinds" sCheck) (h21 : Has K "check_company" sCheckC) (h22 : Has K "check_companies" sCheckCs) (h23 : Has K "check_couple" sCheckCp) (h24 : Has K "check_lot" sCheckL) (h26 : Has K "ties_of" sTies) (h27 : Has K "are_alike" sAreAlike) (h28 : Has K "couples_alike" sCplAlike) (h29 : Has K "company_among" sAmongC) (h30 : Has K "company_in_order" sInOrder) (h31 : Has K "couples_unlike" sUnlikeC) (h32 : Has K "tie" sTieP) (h33 : Has K "stand_alike" sStand) (h34 : Has K "alike_couples" sAlikes) (h35 : Has K "among" sAmong) (h36 : Has K "renamed" sRenamed) (h37 : Has K "differing" sDiffer) (h39 : Has K "_law_hash" sHash) (h40 : Has K "_law_random" sRandom) (h41 : Has K "_law_cell" sCell) (h42 : Has K "_law_generator" sGen) (h43 : Has K "_law_yes" sYes) (h44 : Has K "_law_tie" sTie) (h45 : Has K "_law_alike" sAlike2) (h46 : Has K "_law_couples" sCouples) (h47 : Has K "_law_named" sNamed) (h48 : Has K "_law_order" sOrder) (h49 : Has K "_law_company" sCompany) (h50 : Has K "_law_lists_right" sLists) (h51 : Has K "_law_right" sRight) (h52 : Has K "law" sLaw)
    (c0 : HasInt K "LEAST_KINDS" 2) (c1 : HasInt K "MOST_KINDS" 9) (c2 : HasInt K "MOST_PEOPLE" 40)
    (z0 : HasNot K "int") (z1 : HasNot K "len") (z2 : HasNot K "sum") (z3 : HasNot K "max") (z4 : HasNot K "min") (z5 : HasNot K "range") (z6 : HasNot K "isinstance") (z7 : HasNot K "bool") (z8 : HasNot K "list") (z9 : HasNot K "tuple") (z10 : HasNot K "all") (z11 : HasNot K "enumerate") (z12 : HasNot K "repr") (z13 : HasNot K "zip") (z14 : HasNot K "any") (z15 : HasNot K "set") (z16 : HasNot K "sorted")
    (m0 : PySem.W.nsIn K mainGlobals "combinations" = some (some (.type "itertools.combinations")))
    :
    ∃ fd : FuncData, (∀ (s : Shared) (v : Value), BindsTo s fd ⟨[v], []⟩ [("_law_script", v)]) ∧ ∀ base : Heap, K.In base → base.Ns mainGlobals mg → FnG l.prog w K mg base CX0 9 fa fd ["_law_script"] (spLaw K) := by
  have nn : ∀ {x : Str}, HasNot K x → mg x = none := fun z => PySem.W.mg_none_of X G z
  have T : Bi mg := ⟨nn z0, nn z1, nn z2, nn z3, nn z4, nn z5, nn z6, nn z7, nn z8, nn z9, nn z10, nn z11, nn z12, nn z13, nn z14, nn z15, nn z16⟩
  have IM : Im mg := PySem.W.mg_of X G m0
  have C : Cs mg := ⟨let ⟨t, a⟩ := c0; ⟨t, PySem.W.mg_of X G a⟩, let ⟨t, a⟩ := c1; ⟨t, PySem.W.mg_of X G a⟩, let ⟨t, a⟩ := c2; ⟨t, PySem.W.mg_of X G a⟩⟩
  obtain ⟨f12, fd12, F12, g12⟩ := h12.fn X G
  obtain ⟨f13, fd13, F13, g13⟩ := h13.fn X G
  obtain ⟨f14, fd14, F14, g14⟩ := h14.fn X G
  obtain ⟨f15, fd15, F15, g15⟩ := h15.fn X G
  obtain ⟨f16, fd16, F16, g16⟩ := h16.fn X G
  obtain ⟨f17, fd17, F17, g17⟩ := h17.fn X G
  obtain ⟨f18, fd18, F18, g18⟩ := h18.fn X G
  obtain ⟨f19, fd19, F19, g19⟩ := h19.fn X G
  obtain ⟨f20, fd20, F20, g20⟩ := h20.fn X G
  obtain ⟨f21, fd21, F21, g21⟩ := h21.fn X G
  obtain ⟨f22, fd22, F22, g22⟩ := h22.fn X G
  obtain ⟨f23, fd23, F23, g23⟩ := h23.fn X G
  obtain ⟨f24, fd24, F24, g24⟩ := h24.fn X G
  obtain ⟨f26, fd26, F26, g26⟩ := h26.fn X G
  obtain ⟨f27, fd27, F27, g27⟩ := h27.fn X G
  obtain ⟨f28, fd28, F28, g28⟩ := h28.fn X G
  obtain ⟨f29, fd29, F29, g29⟩ := h29.fn X G
  obtain ⟨f30, fd30, F30, g30⟩ := h30.fn X G
  obtain ⟨f31, fd31, F31, g31⟩ := h31.fn X G
  obtain ⟨f32, fd32, F32, g32⟩ := h32.fn X G
  obtain ⟨f33, fd33, F33, g33⟩ := h33.fn X G
  obtain ⟨f34, fd34, F34, g34⟩ := h34.fn X G
  obtain ⟨f35, fd35, F35, g35⟩ := h35.fn X G
  obtain ⟨f36, fd36, F36, g36⟩ := h36.fn X G
  obtain ⟨f37, fd37, F37, g37⟩ := h37.fn X G
  obtain ⟨f39, fd39, F39, g39⟩ := h39.fn X G
  obtain ⟨f40, fd40, F40, g40⟩ := h40.fn X G
  obtain ⟨f41, fd41, F41, g41⟩ := h41.fn X G
  obtain ⟨f42, fd42, F42, g42⟩ := h42.fn X G
  obtain ⟨f43, fd43, F43, g43⟩ := h43.fn X G
  obtain ⟨f44, fd44, F44, g44⟩ := h44.fn X G
  obtain ⟨f45, fd45, F45, g45⟩ := h45.fn X G
  obtain ⟨f46, fd46, F46, g46⟩ := h46.fn X G
  obtain ⟨f47, fd47, F47, g47⟩ := h47.fn X G
  obtain ⟨f48, fd48, F48, g48⟩ := h48.fn X G
  obtain ⟨f49, fd49, F49, g49⟩ := h49.fn X G
  obtain ⟨f50, fd50, F50, g50⟩ := h50.fn X G
  obtain ⟨f51, fd51, F51, g51⟩ := h51.fn X G
  have b12 := F12.binds (ps := ["value"]) fun _ _ _ _ _ _ us hl => match us, hl with | [_], _ => rfl
  have b13 := F13.binds (ps := ["value", "bound"]) fun _ _ _ _ _ _ us hl => match us, hl with | [_, _], _ => rfl
  have b14 := F14.binds (ps := ["value"]) fun _ _ _ _ _ _ us hl => match us, hl with | [_], _ => rfl
  have b15 := F15.binds (ps := ["kinds", "many", "value"]) fun _ _ _ _ _ _ us hl => match us, hl with | [_, _, _], _ => rfl
  have b16 := F16.binds (ps := ["kinds", "value"]) fun _ _ _ _ _ _ us hl => match us, hl with | [_, _], _ => rfl
  have b17 := F17.binds (ps := ["many", "value"]) fun _ _ _ _ _ _ us hl => match us, hl with | [_, _], _ => rfl
  have b18 := F18.binds (ps := ["many", "value"]) fun _ _ _ _ _ _ us hl => match us, hl with | [_, _], _ => rfl
  have b19 := F19.binds (ps := ["many", "value"]) fun _ _ _ _ _ _ us hl => match us, hl with | [_, _], _ => rfl
  have b20 := F20.binds (ps := ["kinds"]) fun _ _ _ _ _ _ us hl => match us, hl with | [_], _ => rfl
  have b21 := F21.binds (ps := ["kinds", "company"]) fun _ _ _ _ _ _ us hl => match us, hl with | [_, _], _ => rfl
  have b22 := F22.binds (ps := ["kinds", "one", "other"]) fun _ _ _ _ _ _ us hl => match us, hl with | [_, _, _], _ => rfl
  have b23 := F23.binds (ps := ["company", "couple"]) fun _ _ _ _ _ _ us hl => match us, hl with | [_, _], _ => rfl
  have b24 := F24.binds (ps := ["company", "lot"]) fun _ _ _ _ _ _ us hl => match us, hl with | [_, _], _ => rfl
  have b26 := F26.binds (ps := ["company"]) fun _ _ _ _ _ _ us hl => match us, hl with | [_], _ => rfl
  have b27 := F27.binds (ps := ["ties", "one", "other"]) fun _ _ _ _ _ _ us hl => match us, hl with | [_, _, _], _ => rfl
  have b28 := F28.binds (ps := ["ties"]) fun _ _ _ _ _ _ us hl => match us, hl with | [_], _ => rfl
  have b29 := F29.binds (ps := ["company", "lot"]) fun _ _ _ _ _ _ us hl => match us, hl with | [_, _], _ => rfl
  have b30 := F30.binds (ps := ["company", "order"]) fun _ _ _ _ _ _ us hl => match us, hl with | [_, _], _ => rfl
  have b31 := F31.binds (ps := ["one", "other"]) fun _ _ _ _ _ _ us hl => match us, hl with | [_, _], _ => rfl
  have b32 := F32.binds (ps := ["kinds", "company", "couple"]) fun _ _ _ _ _ _ us hl => match us, hl with | [_, _, _], _ => rfl
  have b33 := F33.binds (ps := ["kinds", "company", "couple"]) fun _ _ _ _ _ _ us hl => match us, hl with | [_, _, _], _ => rfl
  have b34 := F34.binds (ps := ["kinds", "company"]) fun _ _ _ _ _ _ us hl => match us, hl with | [_, _], _ => rfl
  have b35 := F35.binds (ps := ["kinds", "company", "lot"]) fun _ _ _ _ _ _ us hl => match us, hl with | [_, _, _], _ => rfl
  have b36 := F36.binds (ps := ["kinds", "company", "order"]) fun _ _ _ _ _ _ us hl => match us, hl with | [_, _, _], _ => rfl
  have b37 := F37.binds (ps := ["kinds", "one", "other"]) fun _ _ _ _ _ _ us hl => match us, hl with | [_, _, _], _ => rfl
  have b39 := F39.binds (ps := ["_law_seed", "_law_index"]) fun _ _ _ _ _ _ us hl => match us, hl with | [_, _], _ => rfl
  have b40 := F40.binds (ps := ["_law_generator_here", "_law_bound"]) fun _ _ _ _ _ _ us hl => match us, hl with | [_, _], _ => rfl
  have b41 := F41.binds (ps := ["_law_script", "_law_index"]) fun _ _ _ _ _ _ us hl => match us, hl with | [_, _], _ => rfl
  have b42 := F42.binds (ps := ["_law_script", "_law_index"]) fun _ _ _ _ _ _ us hl => match us, hl with | [_, _], _ => rfl
  have b43 := F43.binds (ps := ["_law_told", "_law_due"]) fun _ _ _ _ _ _ us hl => match us, hl with | [_, _], _ => rfl
  have b44 := F44.binds (ps := ["_law_company_here", "_law_one", "_law_other"]) fun _ _ _ _ _ _ us hl => match us, hl with | [_, _, _], _ => rfl
  have b45 := F45.binds (ps := ["_law_company_here", "_law_one", "_law_other"]) fun _ _ _ _ _ _ us hl => match us, hl with | [_, _, _], _ => rfl
  have b46 := F46.binds (ps := ["_law_many"]) fun _ _ _ _ _ _ us hl => match us, hl with | [_], _ => rfl
  have b47 := F47.binds (ps := ["_law_company_here", "_law_order_here"]) fun _ _ _ _ _ _ us hl => match us, hl with | [_, _], _ => rfl
  have b48 := F48.binds (ps := ["_law_generator_here", "_law_many"]) fun _ _ _ _ _ _ us hl => match us, hl with | [_, _], _ => rfl
  have b49 := F49.binds (ps := ["_law_generator_here", "_law_kinds", "_law_many"]) fun _ _ _ _ _ _ us hl => match us, hl with | [_, _, _], _ => rfl
  have b50 := F50.binds (ps := ["_law_generator_here", "_law_kinds", "_law_company_here"]) fun _ _ _ _ _ _ us hl => match us, hl with | [_, _, _], _ => rfl
  have b51 := F51.binds (ps := ["_law_generator_here"]) fun _ _ _ _ _ _ us hl => match us, hl with | [_], _ => rfl
  have kw0 : KBinds K fd36 ["kinds", "company", "order"] ["order", "company", "kinds"] gK gKV := by
    obtain ⟨oc, od, kV, doc, pm, an, cdv, ct, osl, rfl, lk, hcd⟩ := F36.ex
    refine ⟨fun s us ws _ hl => ?_, fun a b => gK_rel a b⟩
    match us, ws, hl with
    | [], [v0, v1, v2], _ => exact .of_eq rfl
  have kw1 : KBinds K fd35 ["kinds", "company", "lot"] ["lot", "company", "kinds"] gK gKV := by
    obtain ⟨oc, od, kV, doc, pm, an, cdv, ct, osl, rfl, lk, hcd⟩ := F35.ex
    refine ⟨fun s us ws _ hl => ?_, fun a b => gK_rel a b⟩
    match us, ws, hl with
    | [], [v0, v1, v2], _ => exact .of_eq rfl
  have kw2 : KBinds K fd34 ["kinds", "company"] ["company", "kinds"] gK2 gKV2 := by
    obtain ⟨oc, od, kV, doc, pm, an, cdv, ct, osl, rfl, lk, hcd⟩ := F34.ex
    refine ⟨fun s us ws _ hl => ?_, fun a b => gK2_rel a b⟩
    match us, ws, hl with
    | [], [v0, v1], _ => exact .of_eq rfl
  have kw3 : KBinds K fd32 ["kinds", "company", "couple"] ["couple", "company", "kinds"] gK gKV := by
    obtain ⟨oc, od, kV, doc, pm, an, cdv, ct, osl, rfl, lk, hcd⟩ := F32.ex
    refine ⟨fun s us ws _ hl => ?_, fun a b => gK_rel a b⟩
    match us, ws, hl with
    | [], [v0, v1, v2], _ => exact .of_eq rfl
  have kw4 : KBinds K fd33 ["kinds", "company", "couple"] ["couple", "company", "kinds"] gK gKV := by
    obtain ⟨oc, od, kV, doc, pm, an, cdv, ct, osl, rfl, lk, hcd⟩ := F33.ex
    refine ⟨fun s us ws _ hl => ?_, fun a b => gK_rel a b⟩
    match us, ws, hl with
    | [], [v0, v1, v2], _ => exact .of_eq rfl
  have kw5 : KBinds K fd37 ["kinds", "one", "other"] ["other", "one", "kinds"] gK gKV := by
    obtain ⟨oc, od, kV, doc, pm, an, cdv, ct, osl, rfl, lk, hcd⟩ := F37.ex
    refine ⟨fun s us ws _ hl => ?_, fun a b => gK_rel a b⟩
    match us, ws, hl with
    | [], [v0, v1, v2], _ => exact .of_eq rfl
  obtain ⟨fl, oc, od, kV, dc, pm, an, cd, ct, sl, al, ll, cl, kl⟩ := h52
  have e := hfa.symm.trans (PySem.W.mg_of X G al)
  cases e
  refine ⟨PySem.W.fnOf "law" "law" (defArgs sLaw) (defBody sLaw) (defScope sLaw) .none kV dc pm an cd ct, fun s v => .of_eq rfl, fun base _ _ => ?_⟩
  have U12 : Use l.prog w K mg base "is_whole" ["value"] (spWhole K) 1 := ⟨f12, fd12, ok_whole F12 T, g12, F12.kp, b12⟩
  have U13 : Use l.prog w K mg base "is_below" ["value", "bound"] (spBelow K) 2 := ⟨f13, fd13, ok_below F13 U12, g13, F13.kp, b13⟩
  have U14 : Use l.prog w K mg base "are_kinds" ["value"] (spKinds K) 2 := ⟨f14, fd14, ok_kinds F14 C U12, g14, F14.kp, b14⟩
  have U15 : Use l.prog w K mg base "is_row" ["kinds", "many", "value"] (spRow K) 3 := ⟨f15, fd15, ok_row F15 T U13, g15, F15.kp, b15⟩
  have U16 : Use l.prog w K mg base "is_company_of" ["kinds", "value"] (spCompOf K) 4 := ⟨f16, fd16, ok_compOf F16 T C U15, g16, F16.kp, b16⟩
  have U17 : Use l.prog w K mg base "is_couple" ["many", "value"] spCouple 3 := ⟨f17, fd17, ok_couple F17 T U13, g17, F17.kp, b17⟩
  have U18 : Use l.prog w K mg base "is_lot" ["many", "value"] (spLot K) 3 := ⟨f18, fd18, ok_lot F18 T U13, g18, F18.kp, b18⟩
  have U19 : Use l.prog w K mg base "is_order" ["many", "value"] spOrderB 3 := ⟨f19, fd19, ok_orderB F19 T U13, g19, F19.kp, b19⟩
  have U20 : Use l.prog w K mg base "check_kinds" ["kinds"] spCheck 3 := ⟨f20, fd20, ok_check F20 U14, g20, F20.kp, b20⟩
  have U21 : Use l.prog w K mg base "check_company" ["kinds", "company"] (spCheckC K) 5 := ⟨f21, fd21, ok_checkC F21 U20 U16, g21, F21.kp, b21⟩
  have U22 : Use l.prog w K mg base "check_companies" ["kinds", "one", "other"] spCheckCs 6 := ⟨f22, fd22, ok_checkCs F22 T U21 U16, g22, F22.kp, b22⟩
  have U23 : Use l.prog w K mg base "check_couple" ["company", "couple"] spCheckCp 4 := ⟨f23, fd23, ok_checkCp F23 T U17, g23, F23.kp, b23⟩
  have U24 : Use l.prog w K mg base "check_lot" ["company", "lot"] spCheckL 4 := ⟨f24, fd24, ok_checkL F24 T U18, g24, F24.kp, b24⟩
  have U26 : Use l.prog w K mg base "ties_of" ["company"] spTies 1 := ⟨f26, fd26, ok_ties F26 T, g26, F26.kp, b26⟩
  have U27 : Use l.prog w K mg base "are_alike" ["ties", "one", "other"] spAreAlike 1 := ⟨f27, fd27, ok_areAlike F27 T, g27, F27.kp, b27⟩
  have U28 : Use l.prog w K mg base "couples_alike" ["ties"] spCplAlike 2 := ⟨f28, fd28, ok_cplAlike F28 T IM U27, g28, F28.kp, b28⟩
  have U29 : Use l.prog w K mg base "company_among" ["company", "lot"] spAmongC 1 := ⟨f29, fd29, ok_amongC F29 T, g29, F29.kp, b29⟩
  have U30 : Use l.prog w K mg base "company_in_order" ["company", "order"] spInOrder 2 := ⟨f30, fd30, ok_inOrder F30 T U26, g30, F30.kp, b30⟩
  have U31 : Use l.prog w K mg base "couples_unlike" ["one", "other"] spUnlikeC 1 := ⟨f31, fd31, ok_unlikeC F31 T IM, g31, F31.kp, b31⟩
  have U32 : Use l.prog w K mg base "tie" ["kinds", "company", "couple"] spTieP 6 := ⟨f32, fd32, ok_tieP F32 U21 U23, g32, F32.kp, b32⟩
  have KW3 : UseK l.prog w K mg base "tie" ["kinds", "company", "couple"] ["couple", "company", "kinds"] gK gKV spTieP 6 := ⟨f32, fd32, ok_tieP F32 U21 U23, g32, F32.kp, kw3⟩
  have U33 : Use l.prog w K mg base "stand_alike" ["kinds", "company", "couple"] spStand 6 := ⟨f33, fd33, ok_stand F33 U21 U23 U26 U27, g33, F33.kp, b33⟩
  have KW4 : UseK l.prog w K mg base "stand_alike" ["kinds", "company", "couple"] ["couple", "company", "kinds"] gK gKV spStand 6 := ⟨f33, fd33, ok_stand F33 U21 U23 U26 U27, g33, F33.kp, kw4⟩
  have U34 : Use l.prog w K mg base "alike_couples" ["kinds", "company"] spAlikes 6 := ⟨f34, fd34, ok_alikes F34 U21 U26 U28, g34, F34.kp, b34⟩
  have KW2 : UseK l.prog w K mg base "alike_couples" ["kinds", "company"] ["company", "kinds"] gK2 gKV2 spAlikes 6 := ⟨f34, fd34, ok_alikes F34 U21 U26 U28, g34, F34.kp, kw2⟩
  have U35 : Use l.prog w K mg base "among" ["kinds", "company", "lot"] spAmong 6 := ⟨f35, fd35, ok_among F35 U21 U24 U29, g35, F35.kp, b35⟩
  have KW1 : UseK l.prog w K mg base "among" ["kinds", "company", "lot"] ["lot", "company", "kinds"] gK gKV spAmong 6 := ⟨f35, fd35, ok_among F35 U21 U24 U29, g35, F35.kp, kw1⟩
  have U36 : Use l.prog w K mg base "renamed" ["kinds", "company", "order"] spRenamed 6 := ⟨f36, fd36, ok_renamed F36 T U21 U19 U30, g36, F36.kp, b36⟩
  have KW0 : UseK l.prog w K mg base "renamed" ["kinds", "company", "order"] ["order", "company", "kinds"] gK gKV spRenamed 6 := ⟨f36, fd36, ok_renamed F36 T U21 U19 U30, g36, F36.kp, kw0⟩
  have U37 : Use l.prog w K mg base "differing" ["kinds", "one", "other"] spDiffer 7 := ⟨f37, fd37, ok_differ F37 U22 U31, g37, F37.kp, b37⟩
  have KW5 : UseK l.prog w K mg base "differing" ["kinds", "one", "other"] ["other", "one", "kinds"] gK gKV spDiffer 7 := ⟨f37, fd37, ok_differ F37 U22 U31, g37, F37.kp, kw5⟩
  have U39 : Use l.prog w K mg base "_law_hash" ["_law_seed", "_law_index"] spHash 1 := ⟨f39, fd39, ok_hash F39 T, g39, F39.kp, b39⟩
  have U40 : Use l.prog w K mg base "_law_random" ["_law_generator_here", "_law_bound"] spRandom 2 := ⟨f40, fd40, ok_random F40 T U39, g40, F40.kp, b40⟩
  have U41 : Use l.prog w K mg base "_law_cell" ["_law_script", "_law_index"] (spCell K) 1 := ⟨f41, fd41, ok_cell F41 T, g41, F41.kp, b41⟩
  have U42 : Use l.prog w K mg base "_law_generator" ["_law_script", "_law_index"] (spGen K) 2 := ⟨f42, fd42, ok_gen F42 T U41, g42, F42.kp, b42⟩
  have U43 : Use l.prog w K mg base "_law_yes" ["_law_told", "_law_due"] spYes 1 := ⟨f43, fd43, ok_yes F43 T, g43, F43.kp, b43⟩
  have U44 : Use l.prog w K mg base "_law_tie" ["_law_company_here", "_law_one", "_law_other"] spTie 1 := ⟨f44, fd44, ok_tie F44 T, g44, F44.kp, b44⟩
  have U45 : Use l.prog w K mg base "_law_alike" ["_law_company_here", "_law_one", "_law_other"] spAlike2 2 := ⟨f45, fd45, ok_alike2 F45 T U44, g45, F45.kp, b45⟩
  have U46 : Use l.prog w K mg base "_law_couples" ["_law_many"] spCouples 1 := ⟨f46, fd46, ok_couples F46 T, g46, F46.kp, b46⟩
  have U47 : Use l.prog w K mg base "_law_named" ["_law_company_here", "_law_order_here"] spNamed 2 := ⟨f47, fd47, ok_named F47 T U44, g47, F47.kp, b47⟩
  have U48 : Use l.prog w K mg base "_law_order" ["_law_generator_here", "_law_many"] spOrder 3 := ⟨f48, fd48, ok_order F48 T U40, g48, F48.kp, b48⟩
  have U49 : Use l.prog w K mg base "_law_company" ["_law_generator_here", "_law_kinds", "_law_many"] spCompany 4 := ⟨f49, fd49, ok_company F49 T U40 U44 U47 U48, g49, F49.kp, b49⟩
  have U50 : UseG l.prog w K mg base "_law_lists_right" ["_law_generator_here", "_law_kinds", "_law_company_here"] spLists 7 := ⟨f50, fd50, ok_lists F50 T U40 U48 U47 U36 U35 U34 U33 KW0 KW1, g50, F50.kp, b50⟩
  have U51 : UseG l.prog w K mg base "_law_right" ["_law_generator_here"] spRight 8 := ⟨f51, fd51, ok_right F51 T U40 U49 U46 U45 U43 U44 U34 U32 U33 U37 U50 KW2 KW3 KW4 KW5, g51, F51.kp, b51⟩
  exact ok_law (fun_mk (st := sLaw) ll cl kl) T U51 U42 U46 U34 U32 U33 U36
end K2
open PySem PySem.W PyProof.Rows
set_option maxRecDepth 100000 in
set_option maxHeartbeats 0 in
theorem PySem.Challenge.cw_twinties_k02_whole_standing_alike_holds : PySem.Challenge.rw_twinties_k02_whole_standing_alike.Holds := by
  w_on; o_law; k_head; (case hw => w_witness2)
  k_fill
  refine GL.walk_ofG (l := PySem.Challenge.rw_twinties_k02_whole_standing_alike) (n := 63) (k := 9) (x := "_law_script") (sp := K2.spLaw) rfl (by decide) rfl ⟨rfl, by decide, by decide⟩ (fun w h Y => PySem.W.kIn_of Y) ?F (fun K H a ns hl _ hS => ⟨a, ns, rfl, hS, fun _ => rfl⟩)
  case F =>
    intro w mg fa h KX G hmg
    refine' K2.all_mk KX G hmg ?h12 ?h13 ?h14 ?h15 ?h16 ?h17 ?h18 ?h19 ?h20 ?h21 ?h22 ?h23 ?h24 ?h26 ?h27 ?h28 ?h29 ?h30 ?h31 ?h32 ?h33 ?h34 ?h35 ?h36 ?h37 ?h39 ?h40 ?h41 ?h42 ?h43 ?h44 ?h45 ?h46 ?h47 ?h48 ?h49 ?h50 ?h51 ?h52 ?c0 ?c1 ?c2 ?z0 ?z1 ?z2 ?z3 ?z4 ?z5 ?z6 ?z7 ?z8 ?z9 ?z10 ?z11 ?z12 ?z13 ?z14 ?z15 ?z16 ?m0
    (case h12 => refine' K2.has_mk ?a ?l ?c ?k; (case a => k_is); (case l => k_is); (case c => k_is); (case k => k_is))
    (case h13 => refine' K2.has_mk ?a ?l ?c ?k; (case a => k_is); (case l => k_is); (case c => k_is); (case k => k_is))
    (case h14 => refine' K2.has_mk ?a ?l ?c ?k; (case a => k_is); (case l => k_is); (case c => k_is); (case k => k_is))
    (case h15 => refine' K2.has_mk ?a ?l ?c ?k; (case a => k_is); (case l => k_is); (case c => k_is); (case k => k_is))
    (case h16 => refine' K2.has_mk ?a ?l ?c ?k; (case a => k_is); (case l => k_is); (case c => k_is); (case k => k_is))
    (case h17 => refine' K2.has_mk ?a ?l ?c ?k; (case a => k_is); (case l => k_is); (case c => k_is); (case k => k_is))
    (case h18 => refine' K2.has_mk ?a ?l ?c ?k; (case a => k_is); (case l => k_is); (case c => k_is); (case k => k_is))
    (case h19 => refine' K2.has_mk ?a ?l ?c ?k; (case a => k_is); (case l => k_is); (case c => k_is); (case k => k_is))
    (case h20 => refine' K2.has_mk ?a ?l ?c ?k; (case a => k_is); (case l => k_is); (case c => k_is); (case k => k_is))
    (case h21 => refine' K2.has_mk ?a ?l ?c ?k; (case a => k_is); (case l => k_is); (case c => k_is); (case k => k_is))
    (case h22 => refine' K2.has_mk ?a ?l ?c ?k; (case a => k_is); (case l => k_is); (case c => k_is); (case k => k_is))
    (case h23 => refine' K2.has_mk ?a ?l ?c ?k; (case a => k_is); (case l => k_is); (case c => k_is); (case k => k_is))
    (case h24 => refine' K2.has_mk ?a ?l ?c ?k; (case a => k_is); (case l => k_is); (case c => k_is); (case k => k_is))
    (case h26 => refine' K2.has_mk ?a ?l ?c ?k; (case a => k_is); (case l => k_is); (case c => k_is); (case k => k_is))
    (case h27 => refine' K2.has_mk ?a ?l ?c ?k; (case a => k_is); (case l => k_is); (case c => k_is); (case k => k_is))
    (case h28 => refine' K2.has_mk ?a ?l ?c ?k; (case a => k_is); (case l => k_is); (case c => k_is); (case k => k_is))
    (case h29 => refine' K2.has_mk ?a ?l ?c ?k; (case a => k_is); (case l => k_is); (case c => k_is); (case k => k_is))
    (case h30 => refine' K2.has_mk ?a ?l ?c ?k; (case a => k_is); (case l => k_is); (case c => k_is); (case k => k_is))
    (case h31 => refine' K2.has_mk ?a ?l ?c ?k; (case a => k_is); (case l => k_is); (case c => k_is); (case k => k_is))
    (case h32 => refine' K2.has_mk ?a ?l ?c ?k; (case a => k_is); (case l => k_is); (case c => k_is); (case k => k_is))
    (case h33 => refine' K2.has_mk ?a ?l ?c ?k; (case a => k_is); (case l => k_is); (case c => k_is); (case k => k_is))
    (case h34 => refine' K2.has_mk ?a ?l ?c ?k; (case a => k_is); (case l => k_is); (case c => k_is); (case k => k_is))
    (case h35 => refine' K2.has_mk ?a ?l ?c ?k; (case a => k_is); (case l => k_is); (case c => k_is); (case k => k_is))
    (case h36 => refine' K2.has_mk ?a ?l ?c ?k; (case a => k_is); (case l => k_is); (case c => k_is); (case k => k_is))
    (case h37 => refine' K2.has_mk ?a ?l ?c ?k; (case a => k_is); (case l => k_is); (case c => k_is); (case k => k_is))
    (case h39 => refine' K2.has_mk ?a ?l ?c ?k; (case a => k_is); (case l => k_is); (case c => k_is); (case k => k_is))
    (case h40 => refine' K2.has_mk ?a ?l ?c ?k; (case a => k_is); (case l => k_is); (case c => k_is); (case k => k_is))
    (case h41 => refine' K2.has_mk ?a ?l ?c ?k; (case a => k_is); (case l => k_is); (case c => k_is); (case k => k_is))
    (case h42 => refine' K2.has_mk ?a ?l ?c ?k; (case a => k_is); (case l => k_is); (case c => k_is); (case k => k_is))
    (case h43 => refine' K2.has_mk ?a ?l ?c ?k; (case a => k_is); (case l => k_is); (case c => k_is); (case k => k_is))
    (case h44 => refine' K2.has_mk ?a ?l ?c ?k; (case a => k_is); (case l => k_is); (case c => k_is); (case k => k_is))
    (case h45 => refine' K2.has_mk ?a ?l ?c ?k; (case a => k_is); (case l => k_is); (case c => k_is); (case k => k_is))
    (case h46 => refine' K2.has_mk ?a ?l ?c ?k; (case a => k_is); (case l => k_is); (case c => k_is); (case k => k_is))
    (case h47 => refine' K2.has_mk ?a ?l ?c ?k; (case a => k_is); (case l => k_is); (case c => k_is); (case k => k_is))
    (case h48 => refine' K2.has_mk ?a ?l ?c ?k; (case a => k_is); (case l => k_is); (case c => k_is); (case k => k_is))
    (case h49 => refine' K2.has_mk ?a ?l ?c ?k; (case a => k_is); (case l => k_is); (case c => k_is); (case k => k_is))
    (case h50 => refine' K2.has_mk ?a ?l ?c ?k; (case a => k_is); (case l => k_is); (case c => k_is); (case k => k_is))
    (case h51 => refine' K2.has_mk ?a ?l ?c ?k; (case a => k_is); (case l => k_is); (case c => k_is); (case k => k_is))
    (case h52 => refine' K2.has_mk ?a ?l ?c ?k; (case a => k_is); (case l => k_is); (case c => k_is); (case k => k_is))
    (case c0 => refine' K2.hasInt_mk ?a; (case a => k_is))
    (case c1 => refine' K2.hasInt_mk ?a; (case a => k_is))
    (case c2 => refine' K2.hasInt_mk ?a; (case a => k_is))
    (case z0 => (show PySem.W.nsIn _ mainGlobals _ = some none); k_is)
    (case z1 => (show PySem.W.nsIn _ mainGlobals _ = some none); k_is)
    (case z2 => (show PySem.W.nsIn _ mainGlobals _ = some none); k_is)
    (case z3 => (show PySem.W.nsIn _ mainGlobals _ = some none); k_is)
    (case z4 => (show PySem.W.nsIn _ mainGlobals _ = some none); k_is)
    (case z5 => (show PySem.W.nsIn _ mainGlobals _ = some none); k_is)
    (case z6 => (show PySem.W.nsIn _ mainGlobals _ = some none); k_is)
    (case z7 => (show PySem.W.nsIn _ mainGlobals _ = some none); k_is)
    (case z8 => (show PySem.W.nsIn _ mainGlobals _ = some none); k_is)
    (case z9 => (show PySem.W.nsIn _ mainGlobals _ = some none); k_is)
    (case z10 => (show PySem.W.nsIn _ mainGlobals _ = some none); k_is)
    (case z11 => (show PySem.W.nsIn _ mainGlobals _ = some none); k_is)
    (case z12 => (show PySem.W.nsIn _ mainGlobals _ = some none); k_is)
    (case z13 => (show PySem.W.nsIn _ mainGlobals _ = some none); k_is)
    (case z14 => (show PySem.W.nsIn _ mainGlobals _ = some none); k_is)
    (case z15 => (show PySem.W.nsIn _ mainGlobals _ = some none); k_is)
    (case z16 => (show PySem.W.nsIn _ mainGlobals _ = some none); k_is)
    (case m0 => (show PySem.W.nsIn _ mainGlobals _ = some (some (.type "itertools.combinations"))); k_is)

