import PyProof.Rows.All
import Wide.All
import OpenK.AllK
import Wide.FinOn
import PyProof.ReprRoads
import HandS.ForMost
import HandS.IsInst
import HandS.Wide
import HandS.WideBits
import HandS.Conv
import HandS.Style
import HandS.Flow
import HandS.Walk
import HandS.Zip
import HandS.Deep
import KE.SortData
import KE.OsSetLaws
import HandS.RepeatKit
import HandS.Sort
import HandS.NoneIn
import HandS.SortInts
import HandS.TryOnly
import KE.OsSort
import PySem.Challenge.RW_twinties_k03_whole_deeds_and_roads
set_option Elab.async false
set_option linter.all false
set_option maxRecDepth 100000
set_option maxHeartbeats 4000000
/-! Defs whose promise is told where no guard of a repr stands around: a def that asks repr of a list holds its promise there alone. -/
namespace GL
open PySem PySem.Spec PyProof.Rows L2

/-- a def's promise, told of calls around which no repr is under way -/
structure FnG (P : Program) (w : World) (K : PySem.W.Frag) (mg : Str → Option Value) (base : Heap) (CX : CXT) (k : Nat) (f : Addr) (fd : FuncData) (ps : List Str) (sp : Sp) : Prop where
  many : ∀ vs H Q E, sp vs H Q E → vs.length = ps.length
  goes : ∀ (A : Around) (outer : List Env) (s : Shared) (H : Hp) (args : Args) (us : List Value) (vs : List V) (Q : VK) (E : XK), A.guards = some [] → Room k A →
    Env0 P w K mg base A outer s H → BindsTo s fd args (ps.zip us) → Vals vs us → sp vs H Q E → codeAny (model P w) A (.call (.ref f) args) (CR CX outer P w H s Q E) s

section
variable {P : Program} {w : World} {K : PySem.W.Frag} {mg : Str → Option Value} {base : Heap} {CX : CXT} {k : Nat} {f : Addr} {fd : FuncData} {ps : List Str} {sp : Sp}
theorem FnG.of (F : FnOk P w K mg base CX k f fd ps sp) : FnG P w K mg base CX k f fd ps sp := ⟨F.len, fun A o s H a us vs Q E _ => F.run A o s H a us vs Q E⟩
end

section
variable {P : Program} {w : World} {K : PySem.W.Frag} {mg : Str → Option Value} {base : Heap}
/-- the body's walk gives the promise -/
theorem FnG.mk' {x qual : Str} {st : Stmt} {f : Addr} {fd : FuncData} {N ps : List Str} {k : Nat} {sp : Sp} (F : Fun K x qual st f fd) (S : FnScope N ps (defScope st)) (many : ∀ vs H Q E, sp vs H Q E → vs.length = ps.length)
    (walk : ∀ (cdv : Value) (A : Around) (outer : List Env) (s : Shared) (H : Hp) (vs : List V) (Q : VK) (E : XK), A.guards = some [] → Room k (A.deeper (envOfC qual (defScope st) s.heap.objs.size f cdv)) → sp vs H Q E →
      ∃ t, PSs (cxOf CX0 P w K mg base N qual (defScope st) f cdv A outer s H E).nox (defBody st) t ∧ t { nx := fun _ H' => Q .non H', rt := Q } (start N vs) H) : FnG P w K mg base CX0 (k + 1) f fd ps sp := by
  obtain ⟨oc, od, kV, doc, pm, an, cdv, ct, osl, efd, lk, hcd⟩ := F.ex
  subst efd
  refine ⟨many, ?_⟩
  intro A outer s H args us vs Q E hg hr e0 hb rv hsp
  have cnt := many _ _ _ _ hsp
  have up : ∀ b o, base.get? b = some o → s.heap.get? b = some o := fun b o e => (e0.bs b o e).1
  have inK : K.In s.heap := e0.mod.kin.keeps up
  have kinds : ∀ y ∈ ps.zip us, (defScope st).names.lookup y.1 = some .local ∨ ((defScope st).names.lookup y.1 = some .cell ∧ ((cellsFrom (s.heap.objs.size + 1) (defScope st).names []).lookup y.1).isSome = true) := by
    rintro ⟨n, v⟩ hy
    exact (S.par n (List.of_mem_zip hy).1).elim (fun q => .inl q) fun q => .inr ⟨q, PySem.W.cellsFrom_some _ _ _ (.inl q)⟩
  refine codeAny_call_function hr.depth (inK _ _ lk) rfl S.co S.gen rfl (PySem.W.codeRec_of inK hcd) (hb _ _ _ _ (wpAny_newFunctionEnv_cells S.kind kinds fun env he s1 x => ?_))
  subst he
  refine ⟨(e0.mod.nolimit.keeps up).keeps x.toInCall.keep, codeAny_func ?_⟩
  obtain ⟨t, ht, hq⟩ := walk cdv A outer s H vs Q E hg (hr.deeper _) hsp
  refine wpAny_mono (ht.nox.run [] s1 (start N vs) H _ (inv_start S hr.hd e0 cnt rv x) hq) (fun fl s' hs => ?_) fun e s' hs => hs
  cases fl with
  | next => exact let ⟨σ', H', J, q⟩ := hs; ⟨V.non, H', J.os, J.bare, J.base, J.hok, rfl, q⟩
  | ret u => exact let ⟨v, σ', H', J, rr, q⟩ := hs; ⟨v, H', J.os, J.bare, J.base, J.hok, rr, q⟩
  | brk => obtain ⟨σ', H', J, q⟩ := hs; exact q.elim
  | cont => obtain ⟨σ', H', J, q⟩ := hs; exact q.elim
end
end GL

namespace GL
open PySem PySem.Spec PyProof.Rows L2
open L2 (Room)
/-! ### a call of such a def from a body around which no guard stands -/
section
variable {X : Cx} {CX : CXT} {k : Nat} {f : Addr} {fd : FuncData} {ps : List Str} {sp : Sp} {ds : List Value} {dvs : List V} {E : XK} {x : Str} {e : Expr} {es : List Expr} {t : TA} {p pos : Pos}
theorem FnG.used {pins : List (Addr × Obj)} {σ : L2.St} {H : Hp} {s : Shared} {Q : VK} {us : List Value} {vs : List V} (F : FnG X.prog X.w X.K X.mg X.base CX k f fd ps sp) (hg : X.A.guards = some []) (hr : Room k X.A) (hb : Binds X.K fd ps ds)
    (hd : Vals dvs ds) (hx : Passes CX X E) (I : Inv X pins σ H s) (r : Vals vs us) (h : sp (vs ++ dvs) H Q E) : wpAny (model X.prog X.w) X.A (call (.ref f) us) (EP X pins σ Q) X.xe s := by
  have both : Vals (vs ++ dvs) (us ++ ds) := r.append hd
  have cnt : (us ++ ds).length = ps.length := (both.length).symm.trans (F.many _ _ _ _ h)
  refine wpAny_call (codeAny_mono (F.goes X.A X.stack s H ⟨us, []⟩ (us ++ ds) (vs ++ dvs) Q E hg hr I.env0 (hb s us I.kIn cnt) both h) ?_)
  rintro (er | fl) s' q
  · exact hx pins σ H s er s' I q
  · match fl, q with
    | .ret u, q => exact I.after q
theorem pe_callG (F : FnG X.prog X.w X.K X.mg X.base CX k f fd ps sp) (hgd : X.A.guards = some []) (hr : Room k X.A) (hg : Gl X x) (hm : X.mg x = some (.ref f)) (hk : PySem.W.keepIn X.K (.ref f) = true) (hb : Binds X.K fd ps ds) (hd : Vals dvs ds) (hx : Passes CX X E)
    (ha : PA X (e :: es) t) (hdb : (x == ("__debug__" : Str)) = false := by decide) (he : starEach (e :: es) X.env = (false, eval e X.env) :: starEach es X.env := by rfl) (hpl : (backTo pos (starEach es X.env)).any (·.1) = false := by rfl) :
    PE X (.Call (.Name x p) (e :: es) [] pos) (tCall sp dvs E t) :=
  ⟨fun pins s σ H Q I h => wpAny_Call_Name_kw (ld_glob I hg hm (PySem.W.callWith_K (h₀ := X.base) I.ok.mod.kin hk (thn (ha.run pos pins s σ H _ I h) fun us s1 hh => by
    obtain ⟨vs, H1, I1, r, q⟩ := hh
    exact ⟨I1.kIn, F.used hgd hr hb hd hx I1 r q⟩) he hpl) hdb)⟩
end
/-! ### the end -/
theorem law_callG {P : Program} {w : World} {K : PySem.W.Frag} {mg mb : Str → Option Value} {k : Nat} {fa a : Addr} {fd : FuncData} {x : Str} {sp : Sp} {s₁ : Shared} {vs : List Value} {ns : List Int}
    (KX : K.In s₁.heap) (hns : s₁.heap.Ns mainGlobals mg) (hb : s₁.heap.Ns builtinsNs mb) (hbb : ∀ x : Str, x ≠ "__name__" → mb x = bootBuiltins x) (hlim : s₁.heap.NoLimit) (hgen : s₁.gens = #[])
    (ha : s₁.heap.get? a = some { cls := .type "list", data := .seq vs.toArray }) (hi : IntsAre vs ns) (hl : ns.length ≤ sizeLine) (hr : Room k callerA)
    (F : ∀ base : Heap, K.In base → base.Ns mainGlobals mg → FnG P w K mg base CX0 k fa fd [x] sp) (hbind : ∀ (s : Shared) (u : Value), BindsTo s fd ⟨[u], []⟩ [(x, u)])
    (hsp : ∀ H : Hp, Only H → SqL K H a (ns.map V.int) → sp [.ref a] H (fun v _ => v = .bl true) fun _ _ _ => False) :
    codeAny (model P w) callerA (.call (.ref fa) ⟨[.ref a], []⟩) (fun r s' => r = .ok (.ret (.bool true)) ∧ OldK s₁.heap s'.heap ∧ s'.os = s₁.os ∧ AllBare s'.gens) s₁ := by
  have vals := vals_ints hi
  have cnt := hi.length
  -- whichever heap of tracked things holds the script alone
  suffices main : ∀ H : Hp, Only H → SqL K H a (ns.map V.int) → HOk P w H s₁.heap → (∀ b, H b ≠ none → b = a ∧ K.lookup a = none) →
      codeAny (model P w) callerA (.call (.ref fa) ⟨[.ref a], []⟩) (fun r s' => r = .ok (.ret (.bool true)) ∧ OldK s₁.heap s'.heap ∧ s'.os = s₁.os ∧ AllBare s'.gens) s₁ by
    by_cases hk : ∃ o, K.lookup a = some o
    · obtain ⟨o, hk⟩ := hk
      have eo : o = { cls := .type "list", data := .seq vs.toArray } := Option.some.inj ((KX a o hk).symm.trans ha)
      subst eo
      exact main (fun _ => none) (fun _ => Or.inl rfl) (Or.inr ⟨_, vs.toArray, _, hk, rfl, rfl, rfl, by rw [List.size_toArray, cnt]; exact hl, by simpa using vals⟩) (fun b u z => nomatch (show (none : Option HO) = some u from z)) fun b z => (z rfl).elim
    · have hk0 : K.lookup a = none := by
        cases q : K.lookup a with
        | none => rfl
        | some o => exact (hk ⟨o, q⟩).elim
      refine main (fun b => if b = a then some (.frz { cls := .type "list", data := .seq vs.toArray } (.lst (ns.map V.int))) else none) ?_ (Or.inl (Or.inr ⟨_, if_pos rfl⟩)) ?_ ?_
      · intro b
        by_cases e : b = a
        · exact Or.inr ⟨_, _, if_pos e⟩
        · exact Or.inl (if_neg e)
      · intro b u z
        by_cases e : b = a
        · subst e
          have z' := Option.some.inj ((if_pos rfl).symm.trans z)
          subst z'
          exact ⟨ha, by rw [List.length_map]; exact hl, vs, _, vals, ha⟩
        · exact nomatch ((if_neg e).symm.trans z : (none : Option HO) = some u)
      · intro b z
        by_cases e : b = a
        · exact ⟨e, hk0⟩
        · exact (z (if_neg e)).elim
  intro H hO hS hok hA
  have free : ∀ {b : Addr} {o : Obj} {es : Array DictEntry} {ep : Nat}, s₁.heap.get? b = some o → o.data = .dict es ep → H b = none := by
    intro b o es ep e d
    cases q : H b with
    | none => rfl
    | some u =>
      have eb := (hA b (by rw [q]; exact fun z => nomatch z)).1
      subst eb
      have eo := Option.some.inj (ha.symm.trans e)
      subst eo
      exact nomatch (show Data.seq vs.toArray _ = Data.dict es ep from d)
  have space : ∀ {b : Addr} {m : Str → Option Value}, s₁.heap.Ns b m → (hidT s₁.heap H).Ns b m := by
    rintro b m ⟨o, es, ep, e, d, r⟩
    exact ⟨o, es, ep, hidT_get e (free e d), d, r⟩
  have inB : K.In (hidT s₁.heap H) := by
    intro b o e
    refine hidT_get (KX b o e) ?_
    cases q : H b with
    | none => rfl
    | some u =>
      obtain ⟨eb, n⟩ := hA b (by rw [q]; exact fun z => nomatch z)
      subst eb
      exact nomatch (n.symm.trans e)
  have md : Mod K mg (hidT s₁.heap H) := ⟨inB, space hns, ⟨mb, space hb, hbb⟩, by obtain ⟨mc, h1, h2⟩ := hlim; exact ⟨mc, space h1, h2⟩⟩
  have en : Env0 P w K mg (hidT s₁.heap H) callerA [] s₁ H :=
    { frames := rfl, mod := md, bs := fun b o e => of_hidT e, bsz := Nat.le_of_eq (hidT_size _ _), funs := trivial, frf := fun b z => (List.not_mem_nil z).elim, hok := hok, bare := .of_eq hgen }
  refine codeAny_mono ((F _ inB (space hns)).goes callerA [] s₁ H ⟨[.ref a], []⟩ [.ref a] [.ref a] _ _ rfl hr en (hbind s₁ (.ref a)) (.cons rfl .nil) (hsp H hO hS)) ?_
  rintro (er | fl) s' h
  · exact (show False from h).elim
  · match fl, h with
    | .ret u, h =>
      obtain ⟨v, H', os, bare, un, hok', rr, q⟩ := h
      have ev : v = .bl true := q
      subst ev
      have eu : u = Value.bool true := rr
      subst eu
      refine ⟨rfl, OldK.of_keep ?_, os, bare⟩
      intro b o e
      rcases hO b with z | ⟨ob, xs, z⟩
      · exact un.keep b o e z (fun z => (List.not_mem_nil z).elim) (fun z => (List.not_mem_nil z).elim)
      · have e1 := (hok b _ z).1
        have e2 := (hok' b _ (un.frzs b ob _ z)).1
        exact e2.trans (e1.symm.trans e)
theorem walk_ofG {l : PySem.W.OpenLaw} {n k : Nat} {q : Program} {loose : List Str} {XP : (Str → Option Value) → Heap → Prop} {YP : World → Heap → Prop} {d : DefRec} {K : Params → PySem.W.Frag} {sp : PySem.W.Frag → Sp} {x : Str}
    (hn : l.most = some n) (hn2 : n ≤ sizeLine) (hdf : d.params.defaults = []) (hr : Room k callerA) (hY : ∀ (w : World) (h : Heap), YP w h → (K w.params).In h)
    (F : ∀ (w : World) (mg : Str → Option Value) (fa : Addr) (h : Heap), (K w.params).In h → h.Ns mainGlobals mg → mg d.name = some (.ref fa) →
      ∃ fd : FuncData, (∀ (s : Shared) (u : Value), BindsTo s fd ⟨[u], []⟩ [(x, u)]) ∧ ∀ base : Heap, (K w.params).In base → base.Ns mainGlobals mg → FnG l.prog w (K w.params) mg base CX0 k fa fd [x] (sp (K w.params)))
    (hsp : ∀ (K : PySem.W.Frag) (H : Hp) (a : Addr) (ns : List Int), ns.length ≤ n → Only H → SqL K H a (ns.map V.int) → sp K [.ref a] H (fun v _ => v = .bl true) fun _ _ _ => False) :
    PySem.W.WalkO q loose XP YP l.row.toRowW d [] (fun f vs => PySem.call f vs) := by
  refine Att.attach_call hn hdf ?_
  intro w s₀ s₁ mg mb fa o pm cd doc a vs ns G Y ho hd hcd hmg hobj hints hlen hgen
  obtain ⟨fd, hb, hF⟩ := F w mg fa _ (hY w _ Y) G.T.g hmg
  exact law_callG (hY w _ Y) G.T.g G.T.b G.T.builtins G.T.nolimit hgen hobj hints (Nat.le_trans hlen hn2) hr hF hb fun H hO hS => hsp _ H a ns hlen hO hS

/-! ### data -/
mutual
/-- x stands for the datum d: lists, tuples, empty dicts -/
inductive Dt (K : PySem.W.Frag) (H : Hp) : V → PyData → Prop
  | non : Dt K H .non .none
  | bl (b : Bool) : Dt K H (.bl b) (.bool b)
  | int (i : Int) : Dt K H (.int i) (.int i)
  | str (x : Str) : Dt K H (.str x) (.str x)
  | lst {a : Addr} {xs : List V} {ds : List PyData} : H a = some (.lst xs) → Dts K H xs ds → Dt K H (.ref a) (.list ds)
  | tup {a : Addr} {xs : List V} {ds : List PyData} : H a = some (.tup xs) → Dts K H xs ds → Dt K H (.ref a) (.tuple ds)
  | dct {a : Addr} : H a = some (.dK []) → Dt K H (.ref a) (.dict [])
inductive Dts (K : PySem.W.Frag) (H : Hp) : List V → List PyData → Prop
  | nil : Dts K H [] []
  | cons {v : V} {vs : List V} {d : PyData} {ds : List PyData} : Dt K H v d → Dts K H vs ds → Dts K H (v :: vs) (d :: ds)
end
section
variable {X : Cx} {pins : List (Addr × Obj)} {σ : L2.St} {H : Hp} {s : Shared}
theorem Dt.obL {K : PySem.W.Frag} {a : Addr} {xs : List V} (I : Inv X pins σ H s) (h : H a = some (.lst xs)) : ∃ (its : List Value) (n : Nat), Vals xs its ∧ s.heap.get? a = some { cls := .type "list", data := .seq its.toArray n } :=
  let ⟨_, its, n, rv, ho⟩ := (show ObjOk X.prog X.w H s.heap a (.lst xs) from I.hok _ _ h)
  ⟨its, n, rv, ho⟩
theorem Dt.obT {a : Addr} {xs : List V} (I : Inv X pins σ H s) (h : H a = some (.tup xs)) : ∃ (its : List Value) (o : Obj) (n : Nat), Vals xs its ∧ s.heap.get? a = some o ∧ o.cls = .type "tuple" ∧ o.data = .seq its.toArray n :=
  let ⟨_, its, rv, o, h1, h2, n, h3⟩ := (show ObjOk X.prog X.w H s.heap a (.tup xs) from I.hok _ _ h)
  ⟨its, o, n, rv, h1, h2, h3⟩
theorem Dt.obD {a : Addr} (I : Inv X pins σ H s) (h : H a = some (.dK [])) : ∃ (o : Obj) (n : Nat), s.heap.get? a = some o ∧ o.cls = .type "dict" ∧ o.data = .dict #[] n ∧ (a == sysModules) = false := by
  obtain ⟨_, hsys, vs, hv, o, es, ep, h1, h2, h3, _, h4, _⟩ := (show ObjOk X.prog X.w H s.heap a (.dK []) from I.hok _ _ h)
  cases hv
  have e : es = #[] := by
    cases es with
    | mk l => 
      have z : l = [] := by
        cases h4
        rfl
      rw [z]
  subst e
  exact ⟨o, ep, h1, h2.1, h3, hsys⟩
mutual
theorem Dt.reads (I : Inv X pins σ H s) : ∀ (d : PyData) (v : V) (u : Value), Dt X.K H v d → RelV v u → ∃ as, Reads s.heap u d as
  | .none, _, _, h, r => by
    cases h
    cases r
    exact ⟨_, .none⟩
  | .bool b, _, _, h, r => by
    cases h
    cases r
    exact ⟨_, .bool b⟩
  | .int i, _, _, h, r => by
    cases h
    obtain ⟨t, rfl⟩ := r
    exact ⟨_, .int i t⟩
  | .str x, _, _, h, r => by
    cases h
    obtain ⟨t, rfl⟩ := r
    exact ⟨_, .str x t⟩
  | .list ds, v, _, h, r => by
    cases h with
    | lst hs ha =>
      cases r
      obtain ⟨its, n, rv, ho⟩ := Dt.obL (K := X.K) I hs
      obtain ⟨as, hr⟩ := Dt.readsAll I ds _ its ha rv
      exact ⟨_, .list ho rfl rfl hr⟩
  | .tuple ds, _, _, h, r => by
    cases h with
    | tup hs ha =>
      cases r
      obtain ⟨its, o, n, rv, h1, h2, h3⟩ := Dt.obT I hs
      obtain ⟨as, hr⟩ := Dt.readsAll I ds _ its ha rv
      exact ⟨_, .tuple h1 h2 h3 hr⟩
  | .dict kvs, _, _, h, r => by
    cases h with
    | dct hs =>
      cases r
      obtain ⟨o, n, h1, h2, h3, _⟩ := Dt.obD I hs
      exact ⟨_, .dict h1 h2 h3 .nil .nil⟩
theorem Dt.readsAll (I : Inv X pins σ H s) : ∀ (ds : List PyData) (vs : List V) (us : List Value), Dts X.K H vs ds → Vals vs us → ∃ as, ReadsAll s.heap us ds as
  | [], _, _, h, r => by
    cases h
    cases r
    exact ⟨_, .nil⟩
  | d :: ds, _, _, h, r => by
    cases h with
    | cons h1 h2 =>
      cases r with
      | cons r1 r2 =>
        obtain ⟨as, q1⟩ := Dt.reads I d _ _ h1 r1
        obtain ⟨bs, q2⟩ := Dt.readsAll I ds _ _ h2 r2
        exact ⟨_, .cons q1 q2⟩
end
theorem dictText_nil : dictText [] = ("{}" : Str) := by decide +kernel
mutual
theorem Dt.rep (I : Inv X pins σ H s) : ∀ (d : PyData) (v : V) (u : Value), Dt X.K H v d → RelV v u → d.showable = true → d.shown.length ≤ sizeLine → ∃ bs, ReadAtMost s.heap d.depth bs ∧ ReprK X.prog X.w bs s.heap d.depth u d.shown
  | .none, _, _, h, r, _, _ => by
    cases h
    cases r
    exact ⟨[], (fun _ z => nomatch z), by simp only [PyData.shown]; exact .of_is ReprIs.none _ _ _⟩
  | .bool b, _, _, h, r, _, _ => by
    cases h
    cases r
    exact ⟨[], (fun _ z => nomatch z), by simp only [PyData.shown]; exact .of_is (ReprIs.bool b) _ _ _⟩
  | .int i, _, _, h, r, hs, _ => by
    cases h
    obtain ⟨t, rfl⟩ := r
    exact ⟨[], (fun _ z => nomatch z), by simp only [PyData.shown]; exact .of_is (ReprIs.int t (by simpa [PyData.showable] using hs)) _ _ _⟩
  | .str x, _, _, h, r, _, hz => by
    cases h
    obtain ⟨t, rfl⟩ := r
    exact ⟨[], (fun _ z => nomatch z), by simp only [PyData.shown]; exact .of_is (ReprIs.str x t (by simpa only [PyData.shown] using hz)) _ _ _⟩
  | .list ds, v, u, h, r, hs, hz => by
    obtain ⟨as0, whole⟩ := Dt.reads I (.list ds) v u h r
    have hz' : (listText (PyData.shownAll ds)).length ≤ sizeLine := by simpa only [PyData.shown] using hz
    cases h with
    | lst hh ha =>
      cases r
      obtain ⟨its, n, rv, ho⟩ := Dt.obL (K := X.K) I hh
      obtain ⟨bs, hb, hk⟩ := Dt.repAll I ds _ its ha rv (by simpa [PyData.showable] using hs) fun t ht => Nat.le_trans (listText_mem_le ht) hz'
      have out := not_mem_of_deeper whole (n := PyData.depthAll ds) (by simp only [PyData.depth]; omega) hb
      refine ⟨_ :: bs, ReadAtMost.cons whole (by simp only [PyData.depth]; omega) hb, ?_⟩
      simp only [PyData.depth, PyData.shown]
      cases its with
      | nil =>
        cases rv
        cases ha
        simp only [PyData.shownAll, listText_nil]
        exact ReprK.listEmpty ho rfl rfl
      | cons x l => exact ReprK.list ho rfl rfl out (by simpa using hk.length_eq) fun i y e => hk.item i y (by simpa using e)
  | .tuple ds, v, u, h, r, hs, hz => by
    obtain ⟨as0, whole⟩ := Dt.reads I (.tuple ds) v u h r
    have hz' : (tupleText (PyData.shownAll ds)).length ≤ sizeLine := by simpa only [PyData.shown] using hz
    cases h with
    | tup hh ha =>
      cases r
      obtain ⟨its, o, n, rv, h1, h2, h3⟩ := Dt.obT I hh
      obtain ⟨bs, hb, hk⟩ := Dt.repAll I ds _ its ha rv (by simpa [PyData.showable] using hs) fun t ht => Nat.le_trans (tupleText_mem_le ht) hz'
      have out := not_mem_of_deeper whole (n := PyData.depthAll ds) (by simp only [PyData.depth]; omega) hb
      refine ⟨_ :: bs, ReadAtMost.cons whole (by simp only [PyData.depth]; omega) hb, ?_⟩
      simp only [PyData.depth, PyData.shown]
      exact ReprK.tuple h1 h2 h3 out hk
  | .dict kvs, v, u, h, r, hs, hz => by
    obtain ⟨as0, whole⟩ := Dt.reads I (.dict kvs) v u h r
    cases h with
    | dct hh =>
      cases r
      obtain ⟨o, n, h1, h2, h3, h4⟩ := Dt.obD I hh
      refine ⟨[_], ReadAtMost.cons whole (Nat.le_refl _) (fun _ z => nomatch z), ?_⟩
      simp only [PyData.depth, PyData.shown, PyData.shownKv]
      exact ReprK.dict h1 h2 h3 h4 (by simp) .nil
theorem Dt.repAll (I : Inv X pins σ H s) : ∀ (ds : List PyData) (vs : List V) (us : List Value), Dts X.K H vs ds → Vals vs us → PyData.showableAll ds = true → (∀ t ∈ PyData.shownAll ds, t.length ≤ sizeLine) →
    ∃ bs, ReadAtMost s.heap (PyData.depthAll ds) bs ∧ ReprAllK X.prog X.w bs s.heap (PyData.depthAll ds) us (PyData.shownAll ds)
  | [], _, _, h, r, _, _ => by
    cases h
    cases r
    exact ⟨[], (fun _ z => nomatch z), by simp only [PyData.shownAll]; exact .nil⟩
  | d :: ds, _, _, h, r, hs, hz => by
    have hs' : d.showable = true ∧ PyData.showableAll ds = true := by simpa [PyData.showableAll] using hs
    cases h with
    | cons h1 h2 =>
      cases r with
      | cons r1 r2 =>
        obtain ⟨b1, hb1, k1⟩ := Dt.rep I d _ _ h1 r1 hs'.1 (hz _ (by simp [PyData.shownAll]))
        obtain ⟨b2, hb2, k2⟩ := Dt.repAll I ds _ _ h2 r2 hs'.2 fun t ht => hz t (by simp [PyData.shownAll, ht])
        refine ⟨b1 ++ b2, fun b hm => ?_, ?_⟩
        · rcases List.mem_append.mp hm with z | z
          · obtain ⟨d', as', r', q⟩ := hb1 b z
            exact ⟨d', as', r', Nat.le_trans q (by simp only [PyData.depthAll]; omega)⟩
          · obtain ⟨d', as', r', q⟩ := hb2 b z
            exact ⟨d', as', r', Nat.le_trans q (by simp only [PyData.depthAll]; omega)⟩
        · simp only [PyData.depthAll, PyData.shownAll]
          exact .cons ((k1.more fun b z => List.mem_append_left _ z).level_le (by omega)) (k2.more_le (fun b z => List.mem_append_right _ z) (by omega))
end
/-- repr(x), x data -/
def rRepD (K : PySem.W.Frag) : List V → Hp → VK → Prop := fun xs H Q => ∃ x d, xs = [x] ∧ Dt K H x d ∧ d.showable = true ∧ d.shown.length ≤ sizeLine ∧ d.depth ≤ 60 ∧ Q (.str d.shown) H
theorem call_repD (hg : X.A.guards = some []) (hu : X.A.units + 64 < cLine) : CallR X (.builtin "repr") (rRepD X.K) := by
  intro pins s σ H xs us Q I r h
  obtain ⟨x, d, rfl, hd, hs, hz, hn, q⟩ := h
  obtain ⟨u, rfl, r1⟩ := vals1 r
  have back : ∀ (h' : Heap) (t : Tok) (tk : Nat), (∀ b o, s.heap.get? b = some o → h'.get? b = some o) → EP X pins σ Q (.str d.shown t) { s with heap := h', toks := tk } := fun h' t tk k =>
    ⟨.str d.shown, H, I.kept k, ⟨t, rfl⟩, q⟩
  cases d with
  | none =>
    cases hd
    cases r1
    exact PySem.P.repr_of_none (back _ _ _ fun _ _ e => e)
  | bool b =>
    cases hd
    cases r1
    exact PySem.P.repr_of_bool (back _ _ _ fun _ _ e => e)
  | int i =>
    cases hd
    obtain ⟨t, rfl⟩ := r1
    exact PySem.P.repr_of_int (by simpa [PyData.showable] using hs) (back _ _ _ fun _ _ e => e)
  | str y =>
    cases hd
    obtain ⟨t, rfl⟩ := r1
    exact PySem.P.repr_of_str (back _ _ _ fun _ _ e => e) (by simpa only [PyData.shown] using hz)
  | list ds =>
    obtain ⟨as0, whole⟩ := Dt.reads I (.list ds) x u hd r1
    have hz' : (listText (PyData.shownAll ds)).length ≤ sizeLine := by simpa only [PyData.shown] using hz
    cases hd with
    | lst hh ha =>
      cases r1
      obtain ⟨its, n, rv, ho⟩ := Dt.obL (K := X.K) I hh
      obtain ⟨bs, hb, hk⟩ := Dt.repAll I ds _ its ha rv (by simpa [PyData.showable] using hs) fun t ht => Nat.le_trans (listText_mem_le ht) hz'
      have out := not_mem_of_deeper whole (n := PyData.depthAll ds) (by simp only [PyData.depth]; omega) hb
      simp only [PyData.depth] at hn
      refine call_repr_slot (by omega) ⟨_, ho, rfl⟩ F.slot_list_repr.toG ?_
      cases its with
      | nil =>
        cases rv
        cases ha
        simp only [PyData.shown, PyData.shownAll, listText_nil] at back
        exact call_list_repr_empty ⟨_, ho, rfl⟩ ho rfl ⟨_, _, rfl, back s.heap _ _ fun _ _ e => e⟩
      | cons y l =>
        simp only [PyData.shown] at back
        exact call_list_reprK ho rfl rfl out (by simpa using hk.length_eq) (fun i y e => hk.item i y (by simpa using e)) hg (fun b _ => Clear.nil b) (by show X.A.units + 1 + _ < _; omega) (fun _ _ e => e) (fun h' u tk k => ⟨_, _, rfl, back h' u tk k⟩) hz'
  | tuple ds =>
    obtain ⟨as0, whole⟩ := Dt.reads I (.tuple ds) x u hd r1
    have hz' : (tupleText (PyData.shownAll ds)).length ≤ sizeLine := by simpa only [PyData.shown] using hz
    cases hd with
    | tup hh ha =>
      cases r1
      obtain ⟨its, o, n, rv, h1, h2, h3⟩ := Dt.obT I hh
      obtain ⟨bs, hb, hk⟩ := Dt.repAll I ds _ its ha rv (by simpa [PyData.showable] using hs) fun t ht => Nat.le_trans (tupleText_mem_le ht) hz'
      have out := not_mem_of_deeper whole (n := PyData.depthAll ds) (by simp only [PyData.depth]; omega) hb
      simp only [PyData.depth] at hn
      simp only [PyData.shown] at back
      exact call_repr_slot (by omega) ⟨o, h1, h2⟩ F.slot_tuple_repr (call_tuple_reprK h1 h2 h3 out hk hg (fun b _ => Clear.nil b) (by show X.A.units + 1 + _ < _; omega) (fun _ _ e => e) (fun h' u tk k => ⟨_, _, rfl, back h' u tk k⟩) hz')
  | dict kvs =>
    cases hd with
    | dct hh =>
      cases r1
      obtain ⟨o, n, h1, h2, h3, h4⟩ := Dt.obD I hh
      simp only [PyData.shown, PyData.shownKv] at back hz
      exact call_repr_slot (by omega) ⟨o, h1, h2⟩ F.slot_dict_repr (call_dict_reprK (as := []) (d := 0) h1 h2 h3 h4 (by simp) .nil hg (fun b _ => Clear.nil b) (by show X.A.units + 1 + _ < _; omega) (fun _ _ e => e) (fun h' u tk k => ⟨_, _, rfl, back h' u tk k⟩) hz)
end
end GL

namespace GL
open PySem PySem.Spec PyProof.Rows L2
/-! ### a def of the text, ready to be called -/
structure Use (P : Program) (w : World) (K : PySem.W.Frag) (mg : Str → Option Value) (base : Heap) (x : Str) (ps : List Str) (sp : Sp) (k : Nat) : Prop where
  ex : ∃ f fd, FnOk P w K mg base CX0 k f fd ps sp ∧ mg x = some (.ref f) ∧ PySem.W.keepIn K (.ref f) = true ∧ Binds K fd ps []
structure UseG (P : Program) (w : World) (K : PySem.W.Frag) (mg : Str → Option Value) (base : Heap) (x : Str) (ps : List Str) (sp : Sp) (k : Nat) : Prop where
  ex : ∃ f fd, FnG P w K mg base CX0 k f fd ps sp ∧ mg x = some (.ref f) ∧ PySem.W.keepIn K (.ref f) = true ∧ Binds K fd ps []
section
variable {X : Cx} {ps : List Str} {sp : Sp} {x : Str} {e : Expr} {es : List Expr} {t : TA} {p pos : Pos} {k : Nat}
theorem pe_use (U : Use X.prog X.w X.K X.mg X.base x ps sp k) (hr : Room k X.A) (hg : Gl X x) (ha : PA X (e :: es) t)
    (hdb : (x == ("__debug__" : Str)) = false := by decide) (he : starEach (e :: es) X.env = (false, eval e X.env) :: starEach es X.env := by rfl) (hpl : (backTo pos (starEach es X.env)).any (·.1) = false := by rfl) :
    PE X (.Call (.Name x p) (e :: es) [] pos) (tCall sp [] E0 t) := by
  obtain ⟨f, fd, F, hm, hk, hb⟩ := U.ex
  exact pe_call F hr hg hm hk hb .nil pass0 ha hdb he hpl
theorem pe_useG (U : UseG X.prog X.w X.K X.mg X.base x ps sp k) (hgd : X.A.guards = some []) (hr : Room k X.A) (hg : Gl X x) (ha : PA X (e :: es) t)
    (hdb : (x == ("__debug__" : Str)) = false := by decide) (he : starEach (e :: es) X.env = (false, eval e X.env) :: starEach es X.env := by rfl) (hpl : (backTo pos (starEach es X.env)).any (·.1) = false := by rfl) :
    PE X (.Call (.Name x p) (e :: es) [] pos) (tCall sp [] E0 t) := by
  obtain ⟨f, fd, F, hm, hk, hb⟩ := U.ex
  exact pe_callG F hgd hr hg hm hk hb .nil pass0 ha hdb he hpl
/-- f(k = v, ..), nothing by place -/
theorem pe_kws {CX : CXT} {f : Addr} {fd : FuncData} {ks : List Str} {E : XK} {kws : List Keyword} {tk : TA} {g : List Value → List Value → List Value} {gV : List V → List V → List V}
    (F : FnOk X.prog X.w X.K X.mg X.base CX k f fd ps sp) (hr : Room k X.A) (hg : Gl X x) (hm : X.mg x = some (.ref f)) (hk : PySem.W.keepIn X.K (.ref f) = true) (hb : KBinds X.K fd ps ks g gV) (hx : Passes CX X E) (hkw : PK X kws tk)
    (hall : (backToKw pos (keywordEach kws X.env)).all (·.1.isSome) = true := by rfl) (hks : (backToKw pos (keywordEach kws X.env)).filterMap (·.1) = ks := by rfl) (hdb : (x == ("__debug__" : Str)) = false := by decide)
    (hpl : ((backTo pos (starEach [] X.env)).any (·.1) || (backToKw pos (keywordEach kws X.env)).any (·.1.isNone)) = false := by rfl) :
    PE X (.Call (.Name x p) [] kws pos) (tCallK sp gV E tNil tk) :=
  ⟨fun pins s σ H Q I h => wpAny_Call_Name_kw (ld_glob I hg hm (PySem.W.callWith_KW0 (h₀ := X.base) I.ok.mod.kin hk hall (thn (hkw.run pos pins s σ H _ I h) fun ws s2 hh => by
    obtain ⟨zs, H2, I2, rz, q2⟩ := hh
    refine ⟨I2.kIn, ?_⟩
    rw [hks]
    exact run_fnk F hr hb hx I2 .nil rz q2) hpl) hdb)⟩
end
/-! ### rules -/
section
variable {X : Cx} {pos : Pos}
def CPowW (i j : Int) : Prop := 0 ≤ j ∧ (Builtin.Int.intBits i : Int) * j ≤ 2 ^ 27
theorem op_powW : OpR X (binaryOp .Pow) (rI CPowW fun i j => .int (i ^ j.toNat)) := opI fun _ _ _ _ _ _ _ hc q => pow_int hc.1 hc.2 q
/-- xs != ys, ys an empty list -/
def rNeNil (K : PySem.W.Frag) : R2 := fun x y H Q => ∃ a b xs, x = .ref a ∧ y = .ref b ∧ SqL K H a xs ∧ SqL K H b [] ∧ Q (.bl (!xs.isEmpty)) H
theorem op_neNil (hu : X.A.units + 64 < cLine) : OpR X (compareOp .NotEq) (rNeNil X.K) := by
  intro pins s σ H x y v u Q I rx ry h
  obtain ⟨a, b, xs, rfl, rfl, ha, hb, q⟩ := h
  cases rx
  cases ry
  obtain ⟨is, ra, pa, _⟩ := I.list ha
  obtain ⟨js, rb, pb, _⟩ := I.list hb
  cases rb
  cases xs with
  | nil =>
    cases ra
    exact (SeqAt.RcNeAt.lists (e := fun _ => true) pa.isList pb.isList rfl (by omega) (fun j h1 => absurd h1 (by simp))) _ _ _ _ ⟨.bl _, H, I, rfl, q⟩
  | cons z zs =>
    cases ra with
    | cons r1 r2 => exact (SeqAt.RcNeAt.lists_lengths pa.isList pb.isList (by simp) (by omega)) _ _ _ _ ⟨.bl _, H, I, rfl, q⟩
/-- xs[::0 - 1] -/
theorem pe_revB {e : Expr} {te : TE} {k k2 : Nat} {p1 p2 p3 p4 : Pos} (he : PE X e te) : PE X (.Subscript e (.Slice none none (some (.BinOp (.Constant (.int 0) k p1) .Sub (.Constant (.int 1) k2 p4) p2)) p3) pos) (tRevL X.K te) := by
  refine ⟨fun pins s σ H Q I h => Subscript_ (thn (he.run pins s σ H _ I h) ?_)⟩
  rintro v s1 ⟨x, H1, I1, r1, a, xs, rfl, hx, q⟩
  cases r1
  have back : PO X (some (.BinOp (.Constant (.int 0) k p1) .Sub (.Constant (.int 1) k2 p4) p2)) (tPart (tOp (rI0 fun i j => .int (i - j)) (tC (.int 0)) (tC (.int 1)))) := po_some (pe_op op_sub pe_int pe_int)
  refine wpAny_Slice (thn (po_none.run pins s1 σ H1 (fun o H2 => o = none ∧ H2 = H1) I1 ⟨rfl, rfl⟩) ?_)
  rintro vl s2 ⟨l, H2, I2, pl, rfl, rfl⟩
  refine thn (po_none.run pins s2 σ H2 (fun o H3 => o = none ∧ H3 = H2) I2 ⟨rfl, rfl⟩) ?_
  rintro vu s3 ⟨u, H3, I3, pu, rfl, rfl⟩
  refine thn (back.run pins s3 σ H3 (fun o H4 => o = some (-1) ∧ H4 = H3) I3 ⟨0, 1, rfl, rfl, -1, rfl, rfl, rfl⟩) ?_
  rintro vs s4 ⟨o, H4, I4, ps, rfl, rfl⟩
  have I5 : Inv X pins σ H4 { s4 with heap := s4.heap.push { cls := .type "slice", data := .fields #[vl, vu, vs] } } := I4.kept (t' := s4.toks) fun b ob q => Heap.get?_push_of_some _ q
  obtain ⟨its, r, ht, hz⟩ := I5.list hx
  have cnt := r.length
  refine tail_any (ops := [.ref a, .ref s4.heap.objs.size]) ht.isList.typeIs PySem.slot_list_getitem.lookup (wpAny_getItem_list_slice ht.isList (Heap.IsSliceOf.new _ vl vu vs) pl pu ps (by decide) ?_ (by rw [List.size_toArray]; omega)) (by with_unfolding_all rfl)
  rw [PySem.W.krv_pick]
  exact ⟨.ref _, _, I5.laid (t' := s4.toks) (o := .lst xs.reverse) (fun b ob q => Heap.get?_push_of_some _ q) (Nat.le_refl _) ⟨by rw [List.length_reverse]; exact hz, _, 0, r.reverse, Heap.get?_push_size _ rfl⟩, rfl, q _ (I5.hok.fresh (Nat.le_refl _))⟩
end
end GL

namespace GL
open PySem PySem.Spec PyProof.Rows L2
theorem same_new {p : Addr} {H : Hp} {o : HO} (h : H p = none) : Same H (upd H p o) := fun b u e => by rw [upd_ne (ne_of_none e h)]; exact e
mutual
theorem Dt.same {K : PySem.W.Frag} {H H' : Hp} (s : Same H H') : ∀ (d : PyData) (v : V), Dt K H v d → Dt K H' v d
  | .none, _, h => by cases h; exact .non
  | .bool b, _, h => by cases h; exact .bl b
  | .int i, _, h => by cases h; exact .int i
  | .str x, _, h => by cases h; exact .str x
  | .list ds, _, h => by
    cases h with
    | lst e a => exact .lst (s _ _ e) (Dts.same s ds _ a)
  | .tuple ds, _, h => by
    cases h with
    | tup e a => exact .tup (s _ _ e) (Dts.same s ds _ a)
  | .dict kvs, _, h => by
    cases h with
    | dct e => exact .dct (s _ _ e)
theorem Dts.same {K : PySem.W.Frag} {H H' : Hp} (s : Same H H') : ∀ (ds : List PyData) (vs : List V), Dts K H vs ds → Dts K H' vs ds
  | [], _, h => by cases h; exact .nil
  | d :: ds, _, h => by
    cases h with
    | cons a b => exact .cons (Dt.same s d _ a) (Dts.same s ds _ b)
end
theorem Dts.length {K : PySem.W.Frag} {H : Hp} : ∀ {vs : List V} {ds : List PyData}, Dts K H vs ds → vs.length = ds.length
  | _, _, .nil => rfl
  | _, _, .cons _ b => congrArg (· + 1) b.length
theorem Dts.get {K : PySem.W.Frag} {H : Hp} : ∀ {vs : List V} {ds : List PyData} {i : Nat} {v : V}, Dts K H vs ds → vs[i]? = some v → ∃ d, ds[i]? = some d ∧ Dt K H v d
  | _, _, i, v, .nil, e => by simp at e
  | _, _, 0, v, .cons a _, e => by
    cases e
    exact ⟨_, rfl, a⟩
  | _, _, i + 1, v, .cons _ b, e => b.get (i := i) (v := v) e
theorem Dts.append {K : PySem.W.Frag} {H : Hp} : ∀ {vs ws : List V} {ds es : List PyData}, Dts K H vs ds → Dts K H ws es → Dts K H (vs ++ ws) (ds ++ es)
  | _, _, _, _, .nil, z => z
  | _, _, _, _, .cons a b, z => .cons a (b.append z)
def tyOf : PyData → String
  | .none => "NoneType" | .bool _ => "bool" | .int _ => "int" | .str _ => "str" | .list _ => "list" | .tuple _ => "tuple" | .dict _ => "dict"
theorem Dt.ty {K : PySem.W.Frag} {H : Hp} {x : V} {d : PyData} (h : Dt K H x d) : TyX K H x (.type (tyOf d)) := by
  cases h with
  | non => exact .base .non
  | bl b => exact .base (.bl b)
  | int i => exact .base (.int i)
  | str x => exact .base (.str x)
  | lst e _ => exact .base (.lst e)
  | tup e _ => exact .base (.tup e)
  | dct e => exact .base (.dK e)
def isInt : PyData → Bool
  | .bool _ => true | .int _ => true | _ => false
def isBool : PyData → Bool
  | .bool _ => true | _ => false
def isList : PyData → Bool
  | .list _ => true | _ => false
theorem kit_int {K : PySem.W.Frag} (d : PyData) : PySem.W.kitOne K (.type (tyOf d)) (.type "int") = some (isInt d) := by
  cases d with
  | none => exact kit_ty (show kitB "NoneType" "int" = some false by decide +kernel)
  | bool _ => exact kit_ty (show kitB "bool" "int" = some true by decide +kernel)
  | int _ => exact kit_ty (show kitB "int" "int" = some true by decide +kernel)
  | str _ => exact kit_ty (show kitB "str" "int" = some false by decide +kernel)
  | list _ => exact kit_ty (show kitB "list" "int" = some false by decide +kernel)
  | tuple _ => exact kit_ty (show kitB "tuple" "int" = some false by decide +kernel)
  | dict _ => exact kit_ty (show kitB "dict" "int" = some false by decide +kernel)
theorem kit_bool {K : PySem.W.Frag} (d : PyData) : PySem.W.kitOne K (.type (tyOf d)) (.type "bool") = some (isBool d) := by
  cases d with
  | none => exact kit_ty (show kitB "NoneType" "bool" = some false by decide +kernel)
  | bool _ => exact kit_ty (show kitB "bool" "bool" = some true by decide +kernel)
  | int _ => exact kit_ty (show kitB "int" "bool" = some false by decide +kernel)
  | str _ => exact kit_ty (show kitB "str" "bool" = some false by decide +kernel)
  | list _ => exact kit_ty (show kitB "list" "bool" = some false by decide +kernel)
  | tuple _ => exact kit_ty (show kitB "tuple" "bool" = some false by decide +kernel)
  | dict _ => exact kit_ty (show kitB "dict" "bool" = some false by decide +kernel)
theorem kit_list {K : PySem.W.Frag} (d : PyData) : PySem.W.kitOne K (.type (tyOf d)) (.type "list") = some (isList d) := by
  cases d with
  | none => exact kit_ty (show kitB "NoneType" "list" = some false by decide +kernel)
  | bool _ => exact kit_ty (show kitB "bool" "list" = some false by decide +kernel)
  | int _ => exact kit_ty (show kitB "int" "list" = some false by decide +kernel)
  | str _ => exact kit_ty (show kitB "str" "list" = some false by decide +kernel)
  | list _ => exact kit_ty (show kitB "list" "list" = some true by decide +kernel)
  | tuple _ => exact kit_ty (show kitB "tuple" "list" = some false by decide +kernel)
  | dict _ => exact kit_ty (show kitB "dict" "list" = some false by decide +kernel)
theorem yes_of {σ : L2.St} {H : Hp} {A B : Bool → Hp → Prop} (h : A true H) : tYes σ H (fun b H' => if b = true then A b H' else B b H') := by
  show (if true = true then A true H else B true H)
  exact iteT h
end GL

/-! Data whose repr is known to fit: leaves, and lists and tuples of at most fifty things, three deep. -/
namespace GL
open PySem PySem.Spec PyProof.Rows L2
def Leaf : PyData → Prop
  | .none => True
  | .bool _ => True
  | .int i => i.natAbs < 2 ^ 100
  | .str x => (reprText x).length ≤ 110
  | .dict kvs => kvs = []
  | _ => False
def Nice : Nat → PyData → Prop
  | 0, d => Leaf d
  | n + 1, d => Leaf d ∨ ∃ ds, (d = .list ds ∨ d = .tuple ds) ∧ ds.length ≤ 50 ∧ ∀ e ∈ ds, Nice n e
theorem Nice.leaf {n : Nat} {d : PyData} (h : Leaf d) : Nice n d := by
  cases n with
  | zero => exact h
  | succ n => exact .inl h
theorem Nice.up {n : Nat} {d : PyData} (h : Nice n d) : Nice (n + 1) d := by
  induction n generalizing d with
  | zero => exact .inl h
  | succ n ih =>
    rcases h with h | ⟨ds, e, l, a⟩
    · exact .inl h
    · exact .inr ⟨ds, e, l, fun x hx => ih (a x hx)⟩
theorem Nice.list {n : Nat} {ds : List PyData} (l : ds.length ≤ 50) (a : ∀ e ∈ ds, Nice n e) : Nice (n + 1) (.list ds) := .inr ⟨ds, .inl rfl, l, a⟩
theorem Nice.tuple {n : Nat} {ds : List PyData} (l : ds.length ≤ 50) (a : ∀ e ∈ ds, Nice n e) : Nice (n + 1) (.tuple ds) := .inr ⟨ds, .inr rfl, l, a⟩
theorem textFrom_le : ∀ (ts : List Str) (k : Nat) (acc : Str), (textFrom k acc ts).length ≤ acc.length + piled ts
  | [], k, acc => Nat.le_refl _
  | t :: r, k, acc => by
    have ih := textFrom_le r (k + 1) (acc ++ (if k > 0 then ", " else "" : String) ++ t)
    rw [strLen_append, strLen_append] at ih
    rw [piled_cons]
    show (textFrom (k + 1) (acc ++ (if k > 0 then ", " else "" : String) ++ t) r).length ≤ _
    have e : (Str.ofString (if k > 0 then ", " else "" : String)).length ≤ 2 := by
      by_cases h : k > 0
      · rw [if_pos h]
        exact Nat.le_of_eq rfl
      · rw [if_neg h]
        exact Nat.zero_le _
    omega
theorem listText_le (ts : List Str) : (listText ts).length ≤ 2 + piled ts := by
  unfold listText
  rw [strLen_append]
  have := textFrom_le ts 0 "["
  have e1 : (Str.ofString "[").length = 1 := rfl
  have e2 : (Str.ofString "]").length = 1 := rfl
  omega
theorem tupleText_le (ts : List Str) : (tupleText ts).length ≤ 3 + piled ts := by
  unfold tupleText
  rw [strLen_append, strLen_append]
  have e1 : (Str.ofString "(").length = 1 := rfl
  have e2 : (Str.ofString (if ts.length == 1 then ",)" else ")" : String)).length ≤ 2 := by
    by_cases h : (ts.length == 1) = true
    · rw [if_pos h]
      exact Nat.le_of_eq rfl
    · rw [if_neg h]
      exact Nat.le_succ _
  cases ts with
  | nil =>
    have e3 : (Str.join ", " ([] : List Str)).length = 0 := rfl
    omega
  | cons t r =>
    have := join_length_add (t :: r) (by simp)
    omega
theorem piled_le {B : Nat} : ∀ {ds : List PyData}, (∀ e ∈ ds, e.shown.length ≤ B) → piled (PyData.shownAll ds) ≤ ds.length * (B + 2)
  | [], _ => Nat.zero_le _
  | d :: ds, h => by
    have ih := piled_le (ds := ds) (B := B) fun e he => h e (List.mem_cons_of_mem _ he)
    have h0 := h d (List.mem_cons_self ..)
    simp only [PyData.shownAll]
    rw [piled_cons, List.length_cons, Nat.add_mul]
    omega
def Bound : Nat → Nat
  | 0 => 110
  | n + 1 => 3 + 50 * (Bound n + 2)
theorem Bound.up (n : Nat) : 110 ≤ Bound n := by
  induction n with
  | zero => exact Nat.le_refl _
  | succ n ih =>
    show 110 ≤ 3 + 50 * (Bound n + 2)
    omega
theorem log_of {i : Int} (h : i.natAbs < 2 ^ 100) : i.natAbs.log2 < 100 := PySem.Flt.log2_lt_of (by decide) h
theorem Leaf.shown {d : PyData} (h : Leaf d) : d.shown.length ≤ 110 ∧ d.showable = true ∧ d.depth ≤ 1 := by
  cases d with
  | none => exact ⟨by simp only [PyData.shown]; decide, by simp only [PyData.showable], by simp only [PyData.depth]; omega⟩
  | bool b => exact ⟨by simp only [PyData.shown]; cases b <;> decide, by simp only [PyData.showable], by simp only [PyData.depth]; omega⟩
  | int i =>
    have l := log_of h
    refine ⟨?_, by simp only [PyData.showable]; exact decide_eq_true (by omega), by simp only [PyData.depth]; omega⟩
    simp only [PyData.shown]
    have := int_text_length_le (k := 100) (by decide) l
    rw [PySem.ofString_length]
    omega
  | str x => exact ⟨by simp only [PyData.shown]; exact h, by simp only [PyData.showable], by simp only [PyData.depth]; omega⟩
  | dict kvs =>
    have e : kvs = [] := h
    subst e
    exact ⟨by simp only [PyData.shown, PyData.shownKv]; decide, by simp only [PyData.showable, PyData.showableKv], by simp only [PyData.depth, PyData.depthKv]; omega⟩
  | list ds => exact h.elim
  | tuple ds => exact h.elim
theorem showableAll_of : ∀ {ds : List PyData}, (∀ e ∈ ds, e.showable = true) → PyData.showableAll ds = true
  | [], _ => by simp only [PyData.showableAll]
  | d :: ds, h => by
    simp only [PyData.showableAll]
    rw [h d (List.mem_cons_self ..), showableAll_of fun e he => h e (List.mem_cons_of_mem _ he)]
    rfl
theorem depthAll_of {n : Nat} : ∀ {ds : List PyData}, (∀ e ∈ ds, e.depth ≤ n) → PyData.depthAll ds ≤ n
  | [], _ => by simp only [PyData.depthAll]; omega
  | d :: ds, h => by
    simp only [PyData.depthAll]
    have h0 := h d (List.mem_cons_self ..)
    have ih := depthAll_of (n := n) fun e he => h e (List.mem_cons_of_mem _ he)
    omega
theorem Nice.shown : ∀ {n : Nat} {d : PyData}, Nice n d → d.shown.length ≤ Bound n ∧ d.showable = true ∧ d.depth ≤ n + 1
  | 0, d, h => by
    obtain ⟨a, b, c⟩ := Leaf.shown h
    exact ⟨a, b, by omega⟩
  | n + 1, d, h => by
    rcases h with h | ⟨ds, e, l, a⟩
    · obtain ⟨x, y, z⟩ := Leaf.shown h
      exact ⟨Nat.le_trans x (Bound.up _), y, by omega⟩
    · have m : ds.length * (Bound n + 2) ≤ 50 * (Bound n + 2) := Nat.mul_le_mul_right _ l
      have pl := piled_le (B := Bound n) fun x hx => (Nice.shown (a x hx)).1
      have sh := showableAll_of fun x hx => (Nice.shown (a x hx)).2.1
      have dp := depthAll_of (n := n + 1) fun x hx => (Nice.shown (a x hx)).2.2
      rcases e with rfl | rfl
      · refine ⟨?_, by simp only [PyData.showable]; exact sh, by simp only [PyData.depth]; omega⟩
        simp only [PyData.shown]
        have := listText_le (PyData.shownAll ds)
        show _ ≤ 3 + 50 * (Bound n + 2)
        omega
      · refine ⟨?_, by simp only [PyData.showable]; exact sh, by simp only [PyData.depth]; omega⟩
        simp only [PyData.shown]
        have := tupleText_le (PyData.shownAll ds)
        show _ ≤ 3 + 50 * (Bound n + 2)
        omega
theorem Nice.fits {d : PyData} (h : Nice 3 d) : d.showable = true ∧ d.shown.length ≤ sizeLine ∧ d.depth ≤ 60 := by
  obtain ⟨a, b, c⟩ := h.shown
  refine ⟨b, Nat.le_trans a ?_, by omega⟩
  rw [sizeLine_eq]
  decide
/-! ### what is tracked, but for one thing -/
def hid (H : Hp) (g : Addr) : Hp := fun b => if b = g then none else H b
theorem hid_ne {H : Hp} {g b : Addr} (h : b ≠ g) : hid H g b = H b := if_neg h
theorem hid_same {H : Hp} {g : Addr} : Same (hid H g) H := fun b o e => by
  by_cases h : b = g
  · unfold hid at e
    rw [if_pos h] at e
    cases e
  · rw [hid_ne h] at e
    exact e
theorem hid_none {H : Hp} {g b : Addr} {o : HO} (h : hid H g b = some o) : b ≠ g := fun z => by
  unfold hid at h
  rw [if_pos z] at h
  cases h
end GL

namespace GL
open PySem PySem.Spec PyProof.Rows L2
theorem dpAll_ints {K : PySem.W.Frag} {H : Hp} : ∀ ns : List Int, DpAll K H (ns.map V.int) (ns.map PyData.int)
  | [] => .nil
  | n :: ns => .cons (.int n) (dpAll_ints ns)
/-- a row of numbers, as data -/
def rowP (ns : List Int) : PyData := .list (ns.map PyData.int)
theorem dp_row {K : PySem.W.Frag} {H : Hp} {a : Addr} {ns : List Int} (h : SqL K H a (ns.map V.int)) : Dp K H (.ref a) (rowP ns) := .lst h (dpAll_ints ns)
def rSortedL (K : PySem.W.Frag) : List V → Hp → VK → Prop := fun vs H Q => ∃ (a : Addr) (ts : List (Addr × List Int)), vs = [.ref a] ∧ SqL K H a (ts.map fun t => V.ref t.1) ∧ (∀ t ∈ ts, SqL K H t.1 (t.2.map V.int)) ∧
  ∀ p, H p = none → Q (.ref p) (upd H p (.lst ((ts.mergeSort fun x y => decide (x.2 ≤ y.2)).map fun t => V.ref t.1)))
theorem each_refs {ts : List (Addr × List Int)} : ∀ {its : List Value}, Vals (ts.map fun t => V.ref t.1) its → PySem.W.EachIs (fun v (b : Addr × List Int) => v = Value.ref b.1) its ts := by
  induction ts with
  | nil =>
    intro its h
    cases h
    exact .nil
  | cons t ts ih =>
    intro its h
    cases h with
    | cons r h => exact .cons r (ih h)
theorem refs_each {ts : List (Addr × List Int)} : ∀ {its : List Value}, PySem.W.EachIs (fun v (b : Addr × List Int) => v = Value.ref b.1) its ts → Vals (ts.map fun t => V.ref t.1) its := by
  induction ts with
  | nil =>
    intro its h
    cases h
    exact .nil
  | cons t ts ih =>
    intro its h
    cases h with
    | cons r h => exact .cons r (ih h)
theorem each_of {R : Value → Addr × List Int → Prop} {ts : List (Addr × List Int)} : ∀ {its : List Value}, PySem.W.EachIs (fun v (b : Addr × List Int) => v = Value.ref b.1) its ts → (∀ t ∈ ts, R (.ref t.1) t) → PySem.W.EachIs R its ts := by
  induction ts with
  | nil =>
    intro its h _
    cases h
    exact .nil
  | cons t ts ih =>
    intro its h q
    cases h with
    | cons r h =>
      subst r
      exact .cons (q t (List.mem_cons_self ..)) (ih h fun t' ht => q t' (List.mem_cons_of_mem _ ht))
section
variable {X : Cx}
theorem cr_sortedL (hu : X.A.units + 64 < cLine) : CallR X (.builtin "sorted") (rSortedL X.K) := by
  intro pins s σ H vs us Q I r h
  obtain ⟨a, ts, rfl, hs, hx, q⟩ := h
  obtain ⟨its, rv, hl, hz⟩ := I.list hs
  obtain ⟨u, rfl, ru⟩ := vals1 r
  obtain rfl : u = Value.ref a := ru
  have e := each_refs rv
  refine PySem.W.sorted_data (enc := fun b : Addr × List Int => rowP b.2) (R := fun v b => v = Value.ref b.1) hl.isList e (each_of e fun t ht => Dp.reads I _ _ _ (dp_row (hx t ht)) rfl)
    (PySem.W.AllAlike.of fun b b' => ?_) (PySem.W.Sortable.others fun b => ⟨fun z => (by cases z), fun xs z => (by cases z)⟩) (by rw [← List.length_map (as := ts) (f := fun t => V.ref t.1)]; exact hz) (fun b hb => ?_) fun out ho eo => ?_
  · unfold rowP
    simp only [PySem.W.alike]
    exact PySem.W.alike_ints _ _
  · have d1 : (rowP b.2).depth ≤ 2 := by
      unfold rowP
      simp only [PyData.depth]
      have := PySem.W.depth_ints b.2
      omega
    omega
  · have eo' : (ts.mergeSort (PySem.W.dataLe false fun b => rowP b.2)) = ts.mergeSort fun x y => decide (x.2 ≤ y.2) := by
      have := PySem.W.dataLe_rows (β := Addr × List Int) fun b => b.2
      unfold rowP
      rw [this]
    rw [eo'] at eo
    obtain ⟨c, hc⟩ := sortedAll_at s.heap its out.toArray
    refine ⟨.ref (s.heap.objs.size + 1), upd H (s.heap.objs.size + 1) _, I.laid (t' := s.toks) (o := .lst ((ts.mergeSort fun x y => decide (x.2 ≤ y.2)).map fun t => V.ref t.1)) (fun b o q => sortedAll_old q) (Nat.le_succ _) ⟨?_, out, c, refs_each eo, hc⟩, rfl, q _ (I.hok.fresh (Nat.le_succ _))⟩
    rw [List.length_map, (List.mergeSort_perm ts _).length_eq, ← List.length_map (as := ts) (f := fun t => V.ref t.1)]
    exact hz
end
/-! ### how many unlike numbers -/
def alikeAll (ns : List Int) : Bool := ns.all fun z => z == ns.headD 0
def tLenSetV (K : PySem.W.Frag) (ta : TE) : TE := fun σ H Q => ta σ H fun x H1 => ∃ (l : Addr) (ns : List Int), x = .ref l ∧ SqL K H1 l (ns.map V.int) ∧ ns.length ≤ 4000 ∧ ∀ n : Nat, ((n ≤ 1) ↔ (∀ x ∈ ns, ∀ y ∈ ns, x = y)) → Q (.int n) H1
theorem dups_ne {a : Int} {l : List Int} (h : a ∈ l) : l.eraseDups ≠ [] := fun e => by
  have := (PySem.W.oss_has (l := l) (x := a)).2 h
  rw [PySem.W.oss_dups, e] at this
  cases this
theorem met_one {ns : List Int} : (firstMet (fun i => ns.getD i 0) ns.length).length ≤ 1 ↔ (∀ x ∈ ns, ∀ y ∈ ns, x = y) := by
  rw [PySem.W.oss_met, PySem.W.oss_dups]
  cases ns with
  | nil => simp
  | cons a r =>
    rw [List.eraseDups_cons, List.length_cons]
    constructor
    · intro h
      have e : (r.filter fun x => !x == a).eraseDups = [] := List.length_eq_zero_iff.mp (by omega)
      have z : ∀ x ∈ r, x = a := fun x hx => by
        by_cases c : x = a
        · exact c
        · exact (dups_ne (l := r.filter fun x => !x == a) (List.mem_filter.mpr ⟨hx, by simp [c]⟩) e).elim
      have z' : ∀ x ∈ a :: r, x = a := fun x hx => by
        rcases List.mem_cons.mp hx with hx | hx
        · exact hx
        · exact z x hx
      exact fun x hx y hy => (z' x hx).trans (z' y hy).symm
    · intro h
      have e : (r.filter fun x => !x == a) = [] := List.filter_eq_nil_iff.mpr fun x hx => by
        have := h x (List.mem_cons_of_mem _ hx) a (List.mem_cons_self ..)
        simp [this]
      rw [e]
      exact Nat.le_refl _
theorem pe_lenSetV {X : Cx} {a : Expr} {ta : TE} {p p2 q pos : Pos} (hg : Gl X "len") (hm : X.mg "len" = none) (hg2 : Gl X "set") (hm2 : X.mg "set" = none) (ha : PE X a ta) (hc : X.calm = true := by rfl)
    (na : starEach [a] X.env = (false, eval a X.env) :: starEach [] X.env := by rfl) : PE X (.Call (.Name "len" p) [.Call (.Name "set" p2) [a] [] q] [] pos) (tLenSetV X.K ta) := by
  refine ⟨fun pins s σ H Q I h => ?_⟩
  refine Call_ (ld_blt I hg hm boot_len ?_)
  refine PyProof.Rows.callWith_builtin1 (PyProof.Rows.args_cons ?_ rfl) rfl rfl
  refine Call_ (ld_blt I hg2 hm2 (show bootBuiltins "set" = some (.type "set") by decide +kernel) ?_)
  refine PyProof.Rows.callWith_type1 (PyProof.Rows.args_cons (thn (ha.run pins s σ H _ I h) fun v s1 ⟨x, H1, I1, r1, q1⟩ => PyProof.Rows.args_nil ?_) na) na rfl
  obtain ⟨l, ns, rfl, hq, hl, q1⟩ := q1
  cases r1
  obtain ⟨its, r, pl, hz⟩ := I1.list hq
  have hlen : its.toArray.size = ns.length := by rw [List.size_toArray, ← r.length, List.length_map]
  refine call_set_list (I1.ok.hd hc) pl.isList (by simpa using RZ.intsAre_vals r) (by rw [hlen]; unfold scanBound; omega) fun h' tk hS hk => ?_
  refine PyProof.Rows.args_nil ?_
  have b := firstMet_length_le (fun i => ns.getD i 0) ns.length
  rw [hlen] at hS
  obtain ⟨o, es, ep, t, ho, hex, hd, _, _, _, hf, hn⟩ := hS
  have I2 : Inv X pins σ H1 { s1 with heap := h', toks := tk } := I1.kept fun b o e => hk b o (Heap.lt_size e) e
  exact call_len_set ho hex hd hf (by rw [hn] <;> omega) ⟨.int (firstMet (fun i => ns.getD i 0) ns.length).length, H1, I2.tok _, ⟨_, by rw [hn]⟩, q1 _ met_one⟩
/-! ### rows compared -/
theorem eqv_ints : ∀ xs ys : List Int, PyData.eqvAll (xs.map PyData.int) (ys.map PyData.int) = decide (xs = ys)
  | [], [] => by simp [PyData.eqvAll]
  | [], y :: ys => by simp [PyData.eqvAll]
  | x :: xs, [] => by simp [PyData.eqvAll]
  | x :: xs, y :: ys => by
    simp only [List.map_cons, PyData.eqvAll, PyData.eqv]
    rw [eqv_ints xs ys]
    by_cases h1 : x = y
    · subst h1
      simp
    · simp [h1]
theorem eqv_row (xs ys : List Int) : PyData.eqv (rowP xs) (rowP ys) = decide (xs = ys) := by
  unfold rowP
  simp only [PyData.eqv]
  exact eqv_ints xs ys
def tabP (kss : List (List Int)) : PyData := .list (kss.map rowP)
theorem eqv_rows : ∀ xs ys : List (List Int), PyData.eqvAll (xs.map rowP) (ys.map rowP) = decide (xs = ys)
  | [], [] => by simp [PyData.eqvAll]
  | [], y :: ys => by simp [PyData.eqvAll]
  | x :: xs, [] => by simp [PyData.eqvAll]
  | x :: xs, y :: ys => by
    simp only [List.map_cons, PyData.eqvAll]
    rw [eqv_rows xs ys, eqv_row]
    by_cases h1 : x = y
    · subst h1
      simp
    · simp [h1]
theorem eqv_tab (xs ys : List (List Int)) : PyData.eqv (tabP xs) (tabP ys) = decide (xs = ys) := by
  unfold tabP
  simp only [PyData.eqv]
  exact eqv_rows xs ys
theorem lay_ints : ∀ xs : List Int, PyData.canLayAll0 (xs.map PyData.int) = true
  | [] => by simp [PyData.canLayAll0]
  | x :: xs => by
    simp only [List.map_cons, PyData.canLayAll0, PyData.canLay0]
    rw [lay_ints xs]
    rfl
theorem lay_row (xs : List Int) : PyData.canLay0 (rowP xs) = true := by
  unfold rowP
  simp only [PyData.canLay0]
  exact lay_ints xs
theorem lay_rows : ∀ xs : List (List Int), PyData.canLayAll0 (xs.map rowP) = true
  | [] => by simp [PyData.canLayAll0]
  | x :: xs => by
    simp only [List.map_cons, PyData.canLayAll0]
    rw [lay_rows xs, lay_row]
    rfl
theorem depth_row (xs : List Int) : (rowP xs).depth ≤ 1 := by
  unfold rowP
  simp only [PyData.depth]
  have := PySem.W.depth_ints xs
  omega
theorem depth_rows (xs : List (List Int)) : (tabP xs).depth ≤ 2 := by
  unfold tabP
  simp only [PyData.depth]
  have := depthAll_of (n := 1) (ds := xs.map rowP) fun e he => by
    obtain ⟨x, _, rfl⟩ := List.mem_map.mp he
    exact depth_row x
  omega
theorem shaped_row (xs : List Int) : SeqAt.shaped (rowP xs) = true := by
  unfold SeqAt.shaped
  rw [lay_row, decide_eq_true (Nat.le_trans (depth_row xs) (by decide))]
  rfl
theorem shaped_tab (xs : List (List Int)) : SeqAt.shaped (tabP xs) = true := by
  unfold SeqAt.shaped
  rw [decide_eq_true (Nat.le_trans (depth_rows xs) (by decide))]
  unfold tabP
  simp only [PyData.canLay0]
  rw [lay_rows]
  rfl
theorem any_row (xs : List (List Int)) (y : List Int) : ((xs.map rowP).any fun z => PyData.eqv z (rowP y)) = decide (y ∈ xs) := by
  induction xs with
  | nil => simp
  | cons x xs ih =>
    rw [List.map_cons, List.any_cons, ih, eqv_row]
    by_cases h : x = y
    · subst h
      simp
    · have h' : y ≠ x := fun z => h z.symm
      simp [h, h']
/-- a list of rows, as data -/
theorem dpAll_rows {K : PySem.W.Frag} {H : Hp} : ∀ {rs : List Addr} {kss : List (List Int)}, rs.length = kss.length → (∀ (i : Nat) r ks, rs[i]? = some r → kss[i]? = some ks → SqL K H r (ks.map V.int)) → DpAll K H (rs.map V.ref) (kss.map rowP)
  | [], [], _, _ => .nil
  | [], _ :: _, l, _ => by simp at l
  | _ :: _, [], l, _ => by simp at l
  | r :: rs, ks :: kss, l, h => .cons (dp_row (h 0 r ks rfl rfl)) (dpAll_rows (Nat.succ.inj l) fun i r' ks' a b => h (i + 1) r' ks' a b)
end GL

/-! itertools.combinations of a range, at the library's level -/
namespace Cmb
open PySem PySem.Spec PyProof.Rows
open Sem (wp)
theorem mro_c : mroOf (.type "itertools.combinations") = pure [.type "itertools.combinations", .type "object"] := by rw [mroOf_type]; kernel_rfl
theorem lookup_c_new : typeLookup (.type "itertools.combinations") "__new__" = pure (some (.builtin "itertools.combinations.__new__")) := by rw [typeLookup_type, builtinLookup_eq_fast]; kernel_rfl
theorem slot_c_init : Slot "itertools.combinations" "__init__" "object.__init__" :=
  .of (owner := "object") (n := "__init__") (by rw [typeLookup_type, builtinLookup_eq_fast]; kernel_rfl) (by decide +kernel) (by decide +kernel) (by decide +kernel)
    (by first | exact .inl (by decide +kernel) | exact .inr (by decide +kernel)) (by rw [isSubtype_type]; kernel_rfl)
theorem sub_c : isSubtype (.type "itertools.combinations") (.type "itertools.combinations") = pure true := by rw [isSubtype_type]; kernel_rfl
theorem called_c : TypeCalled "itertools.combinations" "itertools.combinations.__new__" "object.__init__" :=
  ⟨by decide +kernel, by decide +kernel, ⟨_, _, mro_c⟩, madeBy_type mro_c lookup_c_new (by decide +kernel), by decide +kernel, sub_c, slot_c_init⟩
theorem typeCall_c_2 (a b : Value) : checkTypeCall "itertools.combinations" ⟨[a, b], []⟩ = pure () := by kernel_rfl
theorem newCall_c_2 (a b : Value) : checkBuiltinCall "itertools.combinations.__new__" ⟨[.type "itertools.combinations", a, b], []⟩ = pure () := by kernel_rfl
theorem entry_c_new : entryFor table "itertools.combinations.__new__" = some Builtin.«itertools.combinations.__new__» := entryFor_of_tree (by kernel_rfl)
theorem slot_c_iter : Slot "itertools.combinations" "__iter__" "itertools.combinations.__iter__" :=
  .of (owner := "itertools.combinations") (n := "__iter__") (by rw [typeLookup_type, builtinLookup_eq_fast]; kernel_rfl) (by decide +kernel) (by decide +kernel) (by decide +kernel)
    (by first | exact .inl (by decide +kernel) | exact .inr (by decide +kernel)) sub_c
theorem slot_c_next : Slot "itertools.combinations" "__next__" "itertools.combinations.__next__" :=
  .of (owner := "itertools.combinations") (n := "__next__") (by rw [typeLookup_type, builtinLookup_eq_fast]; kernel_rfl) (by decide +kernel) (by decide +kernel) (by decide +kernel)
    (by first | exact .inl (by decide +kernel) | exact .inr (by decide +kernel)) sub_c
theorem entry_c_iter : entryFor table "itertools.combinations.__iter__" = some Builtin.«dict_keyiterator.__iter__» :=
  entryFor_alias (id' := "dict_keyiterator.__iter__") (by kernel_rfl) (by first | rfl | decide +kernel | (unfold String.splitOn; simp +decide [String.splitOnAux])) (by decide +kernel) (by kernel_rfl)
theorem entry_c_next : entryFor table "itertools.combinations.__next__" = some Builtin.«itertools.combinations.__next__» := entryFor_of_tree (by kernel_rfl)
theorem owner_c : Manifest.owners.lookup (String.ofList ['s', 'n', 'o', 'i', 't', 'a', 'n', 'i', 'b', 'm', 'o', 'c', '.', 's', 'l', 'o', 'o', 't', 'r', 'e', 't', 'i'].reverse) = some Manifest.sig_itertools_combinations := by kernel_rfl
theorem noDict_c : typeHasDict (.type "itertools.combinations") = false := by decide +kernel
theorem args_c_iter (a : Value) : argsOk "itertools.combinations.__iter__" ⟨[a], []⟩ := by
  unfold argsOk; rw [signature?_of (id := "itertools.combinations.__iter__") (n := ['_', '_', 'r', 'e', 't', 'i', '_', '_']) (o := ['s', 'n', 'o', 'i', 't', 'a', 'n', 'i', 'b', 'm', 'o', 'c', '.', 's', 'l', 'o', 'o', 't', 'r', 'e', 't', 'i']) (by kernel_rfl) owner_c]; kernel_rfl
theorem args_c_next (a : Value) : argsOk "itertools.combinations.__next__" ⟨[a], []⟩ := by
  unfold argsOk; rw [signature?_of (id := "itertools.combinations.__next__") (n := ['_', '_', 't', 'x', 'e', 'n', '_', '_']) (o := ['s', 'n', 'o', 'i', 't', 'a', 'n', 'i', 'b', 'm', 'o', 'c', '.', 's', 'l', 'o', 'o', 't', 'r', 'e', 't', 'i']) (by kernel_rfl) owner_c]; kernel_rfl
end Cmb

namespace Cmb
open PySem PySem.Spec PyProof.Rows
/-! ### all choices of r of the numbers from lo to n - 1, in order -/
def combs (n : Nat) : Nat → Nat → Nat → List (List Nat)
  | 0, _, _ => [[]]
  | r + 1, 0, lo => []
  | r + 1, d + 1, lo => (combs n r d (lo + 1)).map (lo :: ·) ++ combs n (r + 1) d (lo + 1)
/-- the row that begins at lo -/
def rowF (lo r : Nat) : List Nat := (List.range r).map (lo + ·)
theorem rowF_cons (lo r : Nat) : rowF lo (r + 1) = lo :: rowF (lo + 1) r := by
  unfold rowF
  rw [List.range_succ_eq_map, List.map_cons, List.map_map]
  congr 1
  exact List.map_congr_left fun j _ => by show lo + (j + 1) = lo + 1 + j; omega
theorem combs_len (n : Nat) : ∀ r d lo, ∀ l ∈ combs n r d lo, l.length = r
  | 0, d, lo, l, h => by
    cases d <;> (rw [combs] at h; rw [List.mem_singleton] at h; rw [h]; rfl)
  | r + 1, 0, lo, l, h => by
    rw [combs] at h
    cases h
  | r + 1, d + 1, lo, l, h => by
    rw [combs, List.mem_append, List.mem_map] at h
    rcases h with ⟨t, ht, rfl⟩ | h
    · rw [List.length_cons, combs_len n r d _ t ht]
    · exact combs_len n (r + 1) d _ l h
theorem combs_head (n : Nat) : ∀ r d lo, (combs n r d lo).head? = if r ≤ d then some (rowF lo r) else none
  | 0, d, lo => by
    rw [if_pos (Nat.zero_le _)]
    cases d <;> (rw [combs]; rfl)
  | r + 1, 0, lo => by
    rw [if_neg (by omega), combs]
    rfl
  | r + 1, d + 1, lo => by
    rw [combs, List.head?_append, List.head?_map, combs_head n r d (lo + 1), combs_head n (r + 1) d (lo + 1)]
    by_cases h : r ≤ d
    · rw [if_pos h, if_pos (show r + 1 ≤ d + 1 by omega), rowF_cons lo r]
      rfl
    · rw [if_neg h, if_neg (show ¬ r + 1 ≤ d by omega), if_neg (show ¬ r + 1 ≤ d + 1 by omega)]
      rfl
/-- the choice behind one, as a row -/
def nxt (n : Nat) : List Nat → Option (List Nat)
  | [] => none
  | a :: t => match nxt n t with
    | some t' => some (a :: t')
    | none => if (a != n - (t.length + 1)) = true then some (rowF (a + 1) (t.length + 1)) else none
/-- each is followed by the next one, the last one by e -/
def Ch {α : Type} (f : α → Option α) : List α → Option α → Prop
  | [], _ => True
  | [x], e => f x = e
  | x :: y :: r, e => f x = some y ∧ Ch f (y :: r) e
theorem Ch.append {α : Type} {f : α → Option α} : ∀ {l m : List α} {e : Option α}, Ch f l (match m with | [] => e | y :: _ => some y) → Ch f m e → Ch f (l ++ m) e
  | [], m, e, _, h => h
  | [x], [], e, h, _ => h
  | [x], y :: m, e, h, g => ⟨h, g⟩
  | x :: y :: l, m, e, h, g => ⟨h.1, Ch.append (l := y :: l) h.2 g⟩
theorem Ch.cons {n a r : Nat} {e : Option (List Nat)} : ∀ {l : List (List Nat)}, (∀ t ∈ l, t.length = r) → Ch (nxt n) l none → (e = if (a != n - (r + 1)) = true then some (rowF (a + 1) (r + 1)) else none) → Ch (nxt n) (l.map (a :: ·)) e
  | [], _, _, _ => trivial
  | [x], hl, h, he => by
    have h' : nxt n x = none := h
    have lx := hl x (List.mem_cons_self ..)
    show nxt n (a :: x) = e
    unfold nxt
    rw [h', he, lx]
  | x :: y :: l, hl, h, he => by
    refine ⟨?_, Ch.cons (l := y :: l) (fun t ht => hl t (List.mem_cons_of_mem _ ht)) h.2 he⟩
    show nxt n (a :: x) = some (a :: y)
    unfold nxt
    rw [h.1]
theorem combs_chain (n : Nat) : ∀ r d lo, lo + d = n → Ch (nxt n) (combs n r d lo) none
  | 0, d, lo, h => by cases d <;> (rw [combs]; rfl)
  | r + 1, 0, lo, h => by
    rw [combs]
    trivial
  | r + 1, d + 1, lo, h => by
    rw [combs]
    refine Ch.append ?_ (combs_chain n (r + 1) d (lo + 1) (by omega))
    have hd := combs_head n (r + 1) d (lo + 1)
    by_cases hr : r ≤ d
    · refine Ch.cons (combs_len n r d (lo + 1)) (combs_chain n r d (lo + 1) (by omega)) ?_
      by_cases c : r + 1 ≤ d
      · rw [if_pos c] at hd
        have ne : (lo != n - (r + 1)) = true := by
          rw [bne_iff_ne]
          omega
        rw [if_pos ne]
        cases e : combs n (r + 1) d (lo + 1) with
        | nil => rw [e] at hd; cases hd
        | cons y m => rw [e] at hd; exact hd
      · rw [if_neg c] at hd
        have eq : ¬ (lo != n - (r + 1)) = true := by
          rw [bne_iff_ne]
          omega
        rw [if_neg eq]
        cases e : combs n (r + 1) d (lo + 1) with
        | nil => rfl
        | cons y m => rw [e] at hd; cases hd
    · have e0 : combs n r d (lo + 1) = [] := by
        have := combs_head n r d (lo + 1)
        rw [if_neg hr] at this
        exact List.head?_eq_none_iff.mp this
      rw [e0]
      exact trivial
theorem Ch.at {α : Type} {f : α → Option α} : ∀ {l : List α} {x : α} {i : Nat}, Ch f l none → l[i]? = some x → f x = l[i + 1]?
  | [], _, _, _, h => by simp at h
  | [y], x, 0, h, e => by
    cases e
    exact h
  | [y], x, i + 1, h, e => by simp at e
  | y :: z :: l, x, 0, h, e => by
    cases e
    exact h.1
  | y :: z :: l, x, i + 1, h, e => Ch.at (l := z :: l) (i := i) h.2 e
/-- as the library has it -/
def nextC (n : Nat) (indices : List Nat) : Option (List Nat) :=
  let r := indices.length
  match (List.range r).reverse.find? fun i => indices.getD i 0 != i + n - r with
  | none => none
  | some i => some (indices.take i ++ (List.range (r - i)).map (indices.getD i 0 + 1 + ·))
theorem nextC_nxt (n : Nat) : ∀ l : List Nat, nextC n l = nxt n l
  | [] => rfl
  | a :: t => by
    have ih := nextC_nxt n t
    unfold nextC at ih ⊢
    unfold nxt
    rw [← ih]
    simp only [List.length_cons]
    rw [List.range_succ_eq_map, List.reverse_cons, List.find?_append, ← List.map_reverse, List.find?_map]
    have ef : ((fun i => (a :: t).getD i 0 != i + n - (t.length + 1)) ∘ Nat.succ) = fun i => t.getD i 0 != i + n - t.length := by
      funext i
      show ((a :: t).getD (i + 1) 0 != i + 1 + n - (t.length + 1)) = (t.getD i 0 != i + n - t.length)
      rw [List.getD_cons_succ, show i + 1 + n - (t.length + 1) = i + n - t.length by omega]
    rw [ef]
    cases h : (List.range t.length).reverse.find? (fun i => t.getD i 0 != i + n - t.length) with
    | some i =>
      have il : i < t.length := by
        have := List.mem_of_find?_eq_some h
        rw [List.mem_reverse, List.mem_range] at this
        exact this
      show some ((a :: t).take (i + 1) ++ (List.range (t.length + 1 - (i + 1))).map ((a :: t).getD (i + 1) 0 + 1 + ·)) = some (a :: (t.take i ++ (List.range (t.length - i)).map (t.getD i 0 + 1 + ·)))
      rw [List.getD_cons_succ, List.take_succ_cons, show t.length + 1 - (i + 1) = t.length - i by omega]
      rfl
    | none =>
      show (match (none : Option Nat).or ([0].find? fun i => (a :: t).getD i 0 != i + n - (t.length + 1)) with
        | none => none
        | some i => some ((a :: t).take i ++ (List.range (t.length + 1 - i)).map ((a :: t).getD i 0 + 1 + ·))) = _
      rw [Option.none_or]
      by_cases c : (a != n - (t.length + 1)) = true
      · have f0 : ([0].find? fun i => (a :: t).getD i 0 != i + n - (t.length + 1)) = some 0 := by
          refine List.find?_cons_of_pos ?_
          show (a != 0 + n - (t.length + 1)) = true
          rw [Nat.zero_add]
          exact c
        rw [f0, if_pos c]
        rfl
      · have f0 : ([0].find? fun i => (a :: t).getD i 0 != i + n - (t.length + 1)) = none := by
          rw [List.find?_cons_of_neg]
          · rfl
          · show ¬ (a != 0 + n - (t.length + 1)) = true
            rw [Nat.zero_add]
            exact c
        rw [f0, if_neg c]
def choices (n r : Nat) : List (List Nat) := combs n r n 0
theorem choices_first {n r : Nat} (h : r ≤ n) : (choices n r)[0]? = some (List.range r) := by
  have := combs_head n r n 0
  rw [if_pos h] at this
  unfold choices
  rw [← List.head?_eq_getElem?, this]
  unfold rowF
  congr 1
  conv => rhs; rw [← List.map_id (List.range r)]
  exact List.map_congr_left fun j _ => Nat.zero_add j
theorem choices_next {n r i : Nat} {x : List Nat} (h : (choices n r)[i]? = some x) : nextC n x = (choices n r)[i + 1]? := by
  rw [nextC_nxt]
  exact Ch.at (combs_chain n r n 0 (Nat.zero_add n)) h
theorem choices_none {n r : Nat} (h : n < r) : choices n r = [] := by
  have := combs_head n r n 0
  rw [if_neg (by omega)] at this
  exact List.head?_eq_none_iff.mp this
theorem choices_len {n r : Nat} {x : List Nat} (h : x ∈ choices n r) : x.length = r := combs_len n r n 0 x h
end Cmb

namespace Cmb
open PySem PySem.Spec PyProof.Rows
def recC (p : Addr) (st : Int) (last : Value) (idx : List Nat) : Array Value := ([Value.ref p, rawInt st, last] ++ idx.map fun (i : Nat) => rawInt i).toArray
abbrev IsC (h : Heap) (it p : Addr) (st : Int) (last : Value) (idx : List Nat) : Prop := h.get? it = some { cls := .type "itertools.combinations", dict := none, data := .fields (recC p st last idx), slots := #[] }
/-- the pool: the numbers below n -/
def IsPool (h : Heap) (p : Addr) (n : Nat) : Prop := ∃ acc, h.get? p = some { cls := .type "tuple", dict := none, data := .seq acc, slots := #[] } ∧ ItemsOf (fun i v => ∃ t, v = Value.int ((i : Nat) : Int) t) acc n
section
variable {prog : Program} {w : World} {A : Around} {E : Value → Shared → Prop} {s : Shared}
theorem numbers_at {it p : Addr} {st : Int} {last : Value} {idx : List Nat} {Q : List Nat → Shared → Prop} (hit : IsC s.heap it p st last idx) (h : Q idx s) : wpAny (model prog w) A (Builtin.Itertools.itNumbersFrom (.ref it) 3) Q E s := by
  unfold Builtin.Itertools.itNumbersFrom
  refine wpAny_bind (wpAny_load hit ?_)
  show wpAny _ _ (pure _) _ _ _
  refine wpAny_pure ?_
  have e : ((recC p st last idx).toList.drop 3).map (fun | .int n _ => n.toNat | _ => 0) = idx := by
    unfold recC
    rw [List.toList_toArray]
    show ((idx.map fun (i : Nat) => rawInt i)).map _ = idx
    rw [List.map_map]
    conv => rhs; rw [← List.map_id idx]
    exact List.map_congr_left fun j _ => by show ((j : Nat) : Int).toNat = j; exact Int.toNat_natCast j
  exact Eq.mpr (congrArg (fun l => Q l s) e) h
theorem field_at {it p : Addr} {st : Int} {last : Value} {idx : List Nat} {i : Nat} {x : Value} {Q : Value → Shared → Prop} (hit : IsC s.heap it p st last idx) (hx : (recC p st last idx)[i]? = some x) (h : Q x s) : wpAny (model prog w) A (field (.ref it) i) Q E s := wpAny_field hit rfl hx h
theorem state_at {it p : Addr} {st : Int} {last : Value} {idx : List Nat} {Q : Int → Shared → Prop} (hit : IsC s.heap it p st last idx) (h : Q st s) : wpAny (model prog w) A (Builtin.Itertools.itIntField (.ref it) 1) Q E s := by
  unfold Builtin.Itertools.itIntField
  exact wpAny_bind (field_at hit (x := rawInt st) rfl (wpAny_pure h))
theorem pick_at {p : Addr} {n : Nat} {idx : List Nat} {Q : Value → Shared → Prop} (hp : IsPool s.heap p n) (hb : ∀ j ∈ idx, j < n) (hl : idx.length ≤ 1000)
    (h : ∀ us : List Value, us.length = idx.length → (∀ (j k : Nat) , idx[j]? = some k → ∃ t, us[j]? = some (Value.int (k : Int) t)) → Q (.ref s.heap.objs.size) { s with heap := s.heap.push { cls := .type "tuple", data := .seq us.toArray } }) :
    wpAny (model prog w) A (Builtin.Itertools.itPoolItems (.ref p) >>= fun items => newTuple (idx.map fun i => items.getD i .none)) Q E s := by
  obtain ⟨acc, ho, hs, hi⟩ := hp
  refine wpAny_bind ?_
  unfold Builtin.Itertools.itPoolItems
  refine wpAny_bind (wpAny_seqItems ho rfl ?_)
  refine wpAny_pure ?_
  refine wpAny_newTuple (h _ (List.length_map _) fun j k e => ?_) (by rw [List.length_map]; exact Nat.le_trans hl (by decide))
  have kn := hb k (List.mem_of_getElem? e)
  rw [List.getElem?_map, e]
  have hk : k < acc.size := by rw [hs]; exact kn
  obtain ⟨t, ht⟩ := hi k _ (Array.getElem?_eq_getElem hk)
  refine ⟨t, ?_⟩
  show some (acc.getD k .none) = _
  rw [Array.getD_eq_getD_getElem?, Array.getElem?_eq_getElem hk, ← ht]
  rfl
theorem next_out {it p : Addr} {n : Nat} {last : Value} {idx : List Nat} {Q : Value → Shared → Prop} (hit : IsC s.heap it p 1 last idx) (hp : IsPool s.heap p n) (hb : ∀ j ∈ idx, j < n) (hl : idx.length ≤ 1000)
    (h : ∀ (h' : Heap) (us : List Value), us.length = idx.length → (∀ (j k : Nat) , idx[j]? = some k → ∃ t, us[j]? = some (Value.int (k : Int) t)) → IsC h' it p 1 (.ref s.heap.objs.size) idx → h'.get? s.heap.objs.size = some { cls := .type "tuple", data := .seq us.toArray } →
      (∀ b o, b ≠ it → s.heap.get? b = some o → h'.get? b = some o) → Q (.ref s.heap.objs.size) { s with heap := h' }) :
    wpAny (model prog w) A ((Builtin.Itertools.itPoolItems (.ref p) >>= fun items => newTuple (idx.map fun i => items.getD i .none)) >>= fun result => field (.ref it) 2 >>= fun before => setField (.ref it) 2 result >>= fun _ => letGo [before] [result] >>= fun _ => ret result) (fun fin s' => ∃ v, fin = .done (.ret v) ∧ Q v s') E s := by
  refine wpAny_bind (pick_at hp hb hl fun us hu hx => ?_)
  have lt := Heap.lt_size hit
  have hit2 : IsC (s.heap.push { cls := .type "tuple", data := .seq us.toArray }) it p 1 last idx := Heap.get?_push_of_some _ hit
  refine wpAny_bind (field_at (s := { s with heap := s.heap.push { cls := .type "tuple", data := .seq us.toArray } }) hit2 (x := last) rfl ?_)
  refine wpAny_bind (wpAny_setField hit2 rfl (by simp [recC]) ?_)
  refine wpAny_bind (wpAny_letGo (wpAny_pure ⟨_, rfl, h _ us hu hx ?_ ?_ ?_⟩))
  · show ((s.heap.push _).update it _).get? it = _
    rw [Heap.get?_update_self _ hit2 rfl]
    simp [recC, Obj.mapFields]
  · have ne : s.heap.objs.size ≠ it := Nat.ne_of_gt lt
    exact (Heap.SameBut.update ..).2 _ ne |>.trans (Heap.get?_push_size _ rfl)
  · intro b o hb' e
    exact ((Heap.SameBut.update ..).2 _ hb').trans (Heap.get?_push_of_some _ e)
theorem comb_first {it p : Addr} {n : Nat} {last : Value} {idx : List Nat} {Q : Option Value → Shared → Prop} (hit : IsC s.heap it p 0 last idx) (hp : IsPool s.heap p n) (hb : ∀ j ∈ idx, j < n) (hl : idx.length ≤ 1000)
    (h : ∀ (h' : Heap) (us : List Value), us.length = idx.length → (∀ (j k : Nat) , idx[j]? = some k → ∃ t, us[j]? = some (Value.int (k : Int) t)) → IsC h' it p 1 (.ref s.heap.objs.size) idx → h'.get? s.heap.objs.size = some { cls := .type "tuple", data := .seq us.toArray } →
      (∀ b o, b ≠ it → s.heap.get? b = some o → h'.get? b = some o) → Q (some (.ref s.heap.objs.size)) { s with heap := h' }) :
    wpAny (model prog w) A (callSpecial? (.ref it) "__next__") Q E s := by
  have hT : s.TypeIs (.ref it) "itertools.combinations" := ⟨_, hit, rfl⟩
  refine wpAny_callSpecial?_slot (name := Str.ofString "__next__") hT slot_c_next (wpAny_call_entry slot_c_next hT entry_c_next ?_ (args_c_next _))
  show wpAny _ _ (field (.ref it) 0 >>= _) _ _ s
  refine wpAny_bind (field_at hit (x := .ref p) rfl ?_)
  show wpAny _ _ (Builtin.Itertools.itNumbersFrom (.ref it) 3 >>= _) _ _ s
  refine wpAny_bind (numbers_at hit ?_)
  show wpAny _ _ (Builtin.Itertools.itIntField (.ref it) 1 >>= _) _ _ s
  refine wpAny_bind (state_at hit ?_)
  show wpAny _ _ (setField (.ref it) 1 (rawInt 1) >>= _) _ _ s
  refine wpAny_bind (wpAny_setField hit rfl (by simp [recC]) ?_)
  have sb := Heap.SameBut.update s.heap it (Obj.mapFields fun x => x.setIfInBounds 1 (rawInt 1))
  have hit2 : IsC (s.heap.update it (Obj.mapFields fun x => x.setIfInBounds 1 (rawInt 1))) it p 1 last idx := by
    show (s.heap.update it _).get? it = _
    rw [Heap.get?_update_self _ hit rfl]
    simp [recC, Obj.mapFields]
  have pit : p ≠ it := fun z => by
    obtain ⟨acc, ho, _⟩ := hp
    rw [z, hit] at ho
    exact absurd (Value.type.inj (congrArg Obj.cls (Option.some.inj ho))) (by decide)
  have hp2 : IsPool (s.heap.update it (Obj.mapFields fun x => x.setIfInBounds 1 (rawInt 1))) p n := by
    obtain ⟨acc, ho, r⟩ := hp
    exact ⟨acc, (sb.2 p pit).trans ho, r⟩
  refine next_out (s := { s with heap := s.heap.update it (Obj.mapFields fun x => x.setIfInBounds 1 (rawInt 1)) }) hit2 hp2 hb hl fun h' us hu hx hi ht hk => ?_
  have e : (s.heap.update it (Obj.mapFields fun x => x.setIfInBounds 1 (rawInt 1))).objs.size = s.heap.objs.size := sb.1
  rw [e] at hi ht ⊢
  exact h h' us hu hx hi ht fun b o hb e => hk b o hb ((sb.2 b hb).trans e)
theorem comb_more {it p : Addr} {n : Nat} {last : Value} {idx nx : List Nat} {Q : Option Value → Shared → Prop} (hit : IsC s.heap it p 1 last idx) (hp : IsPool s.heap p n) (hn : nextC n idx = some nx) (hb : ∀ j ∈ nx, j < n) (hl : nx.length ≤ 1000)
    (h : ∀ (h' : Heap) (us : List Value), us.length = nx.length → (∀ (j k : Nat) , nx[j]? = some k → ∃ t, us[j]? = some (Value.int (k : Int) t)) → IsC h' it p 1 (.ref s.heap.objs.size) nx → h'.get? s.heap.objs.size = some { cls := .type "tuple", data := .seq us.toArray } →
      (∀ b o, b ≠ it → s.heap.get? b = some o → h'.get? b = some o) → Q (some (.ref s.heap.objs.size)) { s with heap := h' }) :
    wpAny (model prog w) A (callSpecial? (.ref it) "__next__") Q E s := by
  have hT : s.TypeIs (.ref it) "itertools.combinations" := ⟨_, hit, rfl⟩
  refine wpAny_callSpecial?_slot (name := Str.ofString "__next__") hT slot_c_next (wpAny_call_entry slot_c_next hT entry_c_next ?_ (args_c_next _))
  show wpAny _ _ (field (.ref it) 0 >>= _) _ _ s
  refine wpAny_bind (field_at hit (x := .ref p) rfl ?_)
  show wpAny _ _ (Builtin.Itertools.itNumbersFrom (.ref it) 3 >>= _) _ _ s
  refine wpAny_bind (numbers_at hit ?_)
  show wpAny _ _ (Builtin.Itertools.itIntField (.ref it) 1 >>= _) _ _ s
  refine wpAny_bind (state_at hit ?_)
  show wpAny _ _ (Builtin.Itertools.itPoolItems (.ref p) >>= _) _ _ s
  obtain ⟨acc, ho, hs, hi⟩ := id hp
  refine wpAny_bind ?_
  unfold Builtin.Itertools.itPoolItems
  refine wpAny_bind (wpAny_seqItems ho rfl ?_)
  refine wpAny_pure ?_
  show wpAny _ _ (match nextC acc.size idx with | some next => _ | none => _) _ _ s
  rw [hs, hn]
  show wpAny _ _ (Builtin.Itertools.itSetNumbersFrom (.ref it) 3 nx >>= _) _ _ s
  refine wpAny_bind ?_
  unfold Builtin.Itertools.itSetNumbersFrom
  refine wpAny_updateFields hit rfl ?_ ?_
  · have sb := Heap.SameBut.update s.heap it (Obj.mapFields fun fs => fs.extract 0 3 ++ (nx.map fun (n : Nat) => rawInt n).toArray)
    have hit2 : IsC (s.heap.update it (Obj.mapFields fun fs => fs.extract 0 3 ++ (nx.map fun (n : Nat) => rawInt n).toArray)) it p 1 last nx := by
      show (s.heap.update it _).get? it = _
      rw [Heap.get?_update_self _ hit rfl]
      simp [recC, Obj.mapFields]
    have pit : p ≠ it := fun z => by
      rw [z, hit] at ho
      exact absurd (Value.type.inj (congrArg Obj.cls (Option.some.inj ho))) (by decide)
    have hp2 : IsPool (s.heap.update it (Obj.mapFields fun fs => fs.extract 0 3 ++ (nx.map fun (n : Nat) => rawInt n).toArray)) p n := ⟨acc, (sb.2 p pit).trans ho, hs, hi⟩
    refine next_out (s := { s with heap := s.heap.update it (Obj.mapFields fun fs => fs.extract 0 3 ++ (nx.map fun (n : Nat) => rawInt n).toArray) }) hit2 hp2 hb hl fun h' us hu hx hi ht hk => ?_
    have e : (s.heap.update it (Obj.mapFields fun fs => fs.extract 0 3 ++ (nx.map fun (n : Nat) => rawInt n).toArray)).objs.size = s.heap.objs.size := sb.1
    rw [e] at hi ht ⊢
    exact h h' us hu hx hi ht fun b o hb e => hk b o hb ((sb.2 b hb).trans e)
  · have a : ((recC p 1 last idx).extract 0 3 ++ (nx.map fun (n : Nat) => rawInt n).toArray).size ≤ 3 + 1000 := by
      rw [Array.size_append, Array.size_extract, List.size_toArray, List.size_toArray, List.length_map]
      omega
    exact Nat.le_trans a (by rw [sizeLine_eq]; decide)
theorem comb_end {it p : Addr} {n : Nat} {st : Int} {last : Value} {idx : List Nat} {Q : Option Value → Shared → Prop} (hh : A.handled = none) (hit : IsC s.heap it p st last idx) (hp : IsPool s.heap p n) (hs : st = 2 ∨ (st = 1 ∧ nextC n idx = none))
    (hQ : ∀ e h', CpRep.StopE e h' → Heap.ExtBut it s.heap h' → E e { s with heap := h' }) : wpAny (model prog w) A (callSpecial? (.ref it) "__next__") Q E s := by
  have hT : s.TypeIs (.ref it) "itertools.combinations" := ⟨_, hit, rfl⟩
  refine wpAny_callSpecial?_slot (name := Str.ofString "__next__") hT slot_c_next (wpAny_call_entry slot_c_next hT entry_c_next ?_ (args_c_next _))
  show wpAny _ _ (field (.ref it) 0 >>= _) _ _ s
  refine wpAny_bind (field_at hit (x := .ref p) rfl ?_)
  show wpAny _ _ (Builtin.Itertools.itNumbersFrom (.ref it) 3 >>= _) _ _ s
  refine wpAny_bind (numbers_at hit ?_)
  show wpAny _ _ (Builtin.Itertools.itIntField (.ref it) 1 >>= _) _ _ s
  refine wpAny_bind (state_at hit ?_)
  have stop : ∀ {h0 : Heap}, Heap.ExtBut it s.heap h0 → wpAny (model prog w) A.in1 (Builtin.Itertools.itStop : Sem Fin) (fun fin s' => ∃ v, fin = .done (.ret v) ∧ Q (some v) s') E { s with heap := h0 } := fun {h0} eb => by
    unfold Builtin.Itertools.itStop
    show wpAny _ _ (newExc (.type "StopIteration") [] >>= _) _ _ _
    refine wpAny_bind ?_
    simp only [newExc, newTuple]
    refine wpAny_bind (wpAny_newObj_type ?_ (by size_fits))
    refine wpAny_bind (m := firstArgMember _ _) (wpAny_of_eq (a := Value.none) (by first | rfl | (simp only [firstArgMember]; rfl)) ?_)
    refine wpAny_newObj_type ?_ (by size_fits)
    simp only [raiseNew]
    refine wpAny_bind (wpAny_handled ?_)
    first | rw [show A.in1.handled = none from hh] | rw [hh]
    refine wpAny_bind (wpAny_pure (wpAny_throw ?_))
    exact hQ _ _ ⟨_, _, _, rfl, Heap.get?_push_size _ rfl, rfl, rfl, rfl⟩ ((eb.push _).push _)
  rcases hs with rfl | ⟨rfl, hn⟩
  · show wpAny _ _ (PySem.rule "itertools.combinations.ended" >>= _) _ _ s
    exact wpAny_bind (wpAny_rule (stop (Heap.ExtBut.refl it s.heap)))
  · show wpAny _ _ (Builtin.Itertools.itPoolItems (.ref p) >>= _) _ _ s
    obtain ⟨acc, ho, hs, hi⟩ := id hp
    refine wpAny_bind ?_
    unfold Builtin.Itertools.itPoolItems
    refine wpAny_bind (wpAny_seqItems ho rfl ?_)
    refine wpAny_pure ?_
    show wpAny _ _ (match nextC acc.size idx with | some next => _ | none => _) _ _ s
    rw [hs, hn]
    show wpAny _ _ (setField (.ref it) 1 (rawInt 2) >>= _) _ _ s
    refine wpAny_bind (wpAny_setField hit rfl (by simp [recC]) ?_)
    exact stop (Heap.SameBut.update ..).extBut
theorem iter_self {it p : Addr} {st : Int} {last : Value} {idx : List Nat} {Q : Value → Shared → Prop} (hit : IsC s.heap it p st last idx) (h : Q (.ref it) s) : wpAny (model prog w) A (pyIter (.ref it)) Q E s := by
  have hT : s.TypeIs (.ref it) "itertools.combinations" := ⟨_, hit, rfl⟩
  refine wpAny_pyIter_slot hT slot_c_iter (wpAny_call_entry slot_c_iter hT entry_c_iter ?_ (args_c_iter _))
  show wpAny _ _ (ret (.ref it)) _ _ s
  exact wpAny_pure ⟨_, rfl, "itertools.combinations", _, hT, slot_c_next.lookup, h⟩
theorem next_of {it : Addr} {Q : Option Value → Shared → Prop} (h : wpAny (model prog w) A (callSpecial? (.ref it) "__next__") (fun r s' => r.isSome = true ∧ Q r s') (fun e s' => CpRep.StopE e s'.heap ∧ Q none s') s) : wpAny (model prog w) A (pyNext (.ref it)) Q E s := by
  unfold pyNext
  refine wpAny_bind (wpAny_attempt (wpAny_mono h (fun r s' q => ?_) fun e s' q => ?_))
  · cases r with
    | none => cases q.1
    | some v => exact wpAny_pure q.2
  · obtain ⟨⟨a, o, vs, rfl, ho, hc, hd, _⟩, q⟩ := q
    refine wpAny_bind (wpAny_isInstance (T := "StopIteration") (b := true) ⟨o, ho, hc⟩ isSubtype_stop ?_)
    exact wpAny_pure q
end
end Cmb

namespace Cmb
open PySem PySem.Spec PyProof.Rows L2
theorem class_at (rest : List Value) : Builtin.Itertools.itClassAndRest "combinations" ⟨.type "itertools.combinations" :: rest, []⟩ = pure (.type "itertools.combinations", rest) := by
  unfold Builtin.Itertools.itClassAndRest
  show (isSubtype (.type "itertools.combinations") (.type "itertools.combinations") >>= _) = _
  rw [sub_c]
  rfl
theorem bind_at (a b : Value) : Builtin.Itertools.itBindNamed "combinations" ["iterable", "r"] 2 2 [a, b] [] = pure [some a, some b] := by kernel_rfl
theorem ssize_at {r : Nat} {t : Tok} (h : r ≤ 1000) : Builtin.Itertools.itSsizeArg (.int r t) = pure (r : Int) := by
  unfold Builtin.Itertools.itSsizeArg
  show (if (decide ((r : Int) < -(2 ^ 63 : Int)) || decide ((r : Int) ≥ 2 ^ 63)) = true then _ else _) = _
  rw [decide_eq_false (by omega : ¬ ((r : Int) < -(2 ^ 63 : Int))), decide_eq_false (by omega : ¬ ((r : Int) ≥ 2 ^ 63))]
  rfl
theorem plain_c_new : plainId "itertools.combinations.__new__" = true := by decide +kernel
section
variable {prog : Program} {w : World} {A : Around} {E : Value → Shared → Prop} {s : Shared}
theorem code_c_new {rg : Addr} {n r : Nat} {t u v tr : Tok} {Q₁ : Value → Shared → Prop} (hh : A.handled = none) (hr : IsRange s.heap rg 0 n 1 t u v) (n1000 : n ≤ 1000) (r1000 : r ≤ 1000)
    (h : ∀ (h1 h' : Heap) (tk : Nat), (∀ b o, s.heap.get? b = some o → h1.get? b = some o) → (∀ b o, h1.get? b = some o → h'.get? b = some o) → IsPool h' h1.objs.size n → IsC h' (h1.objs.size + 1) h1.objs.size (if r > n then 2 else 0) .none (List.range r) → Q₁ (.ref (h1.objs.size + 1)) { s with heap := h', toks := tk }) :
    codeAny (model prog w) A (.call (.builtin "itertools.combinations.__new__") ⟨[.type "itertools.combinations", .ref rg, .int r tr], []⟩) (wants Q₁ E) s := by
  refine codeAny_of_tree ?_
  show wpAny _ A.in1 (do checkBuiltinCall "itertools.combinations.__new__" ⟨[.type "itertools.combinations", .ref rg, .int r tr], []⟩; again (.builtin "itertools.combinations.__new__" ⟨[.type "itertools.combinations", .ref rg, .int r tr], []⟩)) _ _ s
  refine wpAny_bind (wpAny_of_eq (newCall_c_2 _ _) (wpAny_pure ⟨plainId_quiet plain_c_new _, codeAny_builtin entry_c_new ?_⟩))
  rw [Around.under_plainId plain_c_new _]
  have hsub := sub_c
  have hd := noDict_c
  have hTI : s.TypeIs (.ref rg) "range" := ⟨_, hr, rfl⟩
  have hh1 : A.in1.handled = none := hh
  have hsmall : Builtin.Range.small 0 n 1 = true := small_one (by omega) (by omega) (by omega) (by omega)
  have hn : Builtin.Range.rangeSize 0 n 1 = n := by rw [rangeSize_one]; split <;> omega
  unfold Builtin.«itertools.combinations.__new__»
  refine wpAny_bind ?_
  show wpAny _ _ (Builtin.Itertools.itClassAndRest "combinations" ⟨.type "itertools.combinations" :: [.ref rg, .int r tr], []⟩ >>= _) _ _ s
  refine wpAny_bind (wpAny_of_eq (class_at _) ?_)
  show wpAny _ _ (Builtin.Itertools.itBindNamed "combinations" ["iterable", "r"] 2 2 [.ref rg, .int r tr] [] >>= _) _ _ s
  refine wpAny_bind (wpAny_of_eq (bind_at _ _) ?_)
  show wpAny _ _ (Builtin.Itertools.itSsizeArg (.int r tr) >>= _) _ _ s
  refine wpAny_bind (wpAny_of_eq (ssize_at r1000) ?_)
  show wpAny _ _ (collect (.ref rg) >>= _) _ _ s
  refine wpAny_bind (collect_range hh1 hr hsmall hn (by omega) fun h' tk acc hk hacc => ?_)
  show wpAny _ _ (if ((r : Int) < 0) then _ else _) _ _ _
  rw [if_neg (by omega)]
  show wpAny _ _ (if Builtin.Itertools.itTooMany (r : Int) = true then _ else _) _ _ _
  have tm : Builtin.Itertools.itTooMany (r : Int) = false := decide_eq_false (by omega)
  rw [if_neg (by rw [tm]; decide)]
  show wpAny _ _ (newTuple acc.toList >>= _) _ _ _
  have al : acc.toList.length = n := by rw [Array.length_toList, hacc.1]
  refine wpAny_bind (wpAny_newTuple ?_ (by rw [al]; exact Nat.le_trans n1000 (by decide)))
  refine wpAny_pure ?_
  show wpAny _ _ (Builtin.Itertools.itNewRecord (.type "itertools.combinations") ([.ref h'.objs.size, rawInt (if (r : Int).toNat > acc.toList.length then 2 else 0), .none] ++ (List.range (r : Int).toNat).map fun (i : Nat) => rawInt i) >>= _) _ _ _
  refine wpAny_bind ?_
  unfold Builtin.Itertools.itNewRecord
  rw [al, Int.toNat_natCast, if_pos (by rw [hd]; rfl)]
  have sz1 : (h'.push { cls := .type "tuple", data := .seq acc.toList.toArray }).objs.size = h'.objs.size + 1 := by simp [Heap.push]
  refine wpAny_newObj_type ?_ ?_
  · refine wpAny_pure ?_
    rw [sz1]
    refine h h' _ _ hk (fun b o e => Heap.get?_push_of_some _ (Heap.get?_push_of_some _ e)) ⟨acc, ?_, ?_⟩ ?_
    · refine Heap.get?_push_of_some _ ?_
      rw [Heap.get?_push_size _ rfl, Array.toArray_toList]
    · exact ⟨hacc.1, fun j v e => by
        obtain ⟨t, ht⟩ := hacc.2 j v e
        exact ⟨t, by rw [ht, Int.zero_add, Int.mul_one]⟩⟩
    · show ((h'.push _).push _).get? (h'.objs.size + 1) = _
      rw [← sz1]
      exact Heap.get?_push_size _ (by rfl)
  · show ((([Value.ref h'.objs.size, rawInt (if r > n then 2 else 0), Value.none] ++ (List.range r).map fun (i : Nat) => rawInt i).toArray).size ≤ sizeLine + 2)
    rw [List.size_toArray, List.length_append, List.length_map, List.length_range, sizeLine_eq]
    show 3 + r ≤ _
    omega
end
end Cmb

namespace Cmb
open PySem PySem.Spec PyProof.Rows L2
theorem combs_low (n : Nat) : ∀ r d lo, lo + d = n → ∀ l ∈ combs n r d lo, ∀ j ∈ l, lo ≤ j ∧ j < n
  | 0, d, lo, _, l, h, j, hj => by
    cases d <;> (rw [combs] at h; rw [List.mem_singleton] at h; rw [h] at hj; cases hj)
  | r + 1, 0, lo, _, l, h, j, hj => by
    rw [combs] at h
    cases h
  | r + 1, d + 1, lo, e, l, h, j, hj => by
    rw [combs, List.mem_append, List.mem_map] at h
    rcases h with ⟨t, ht, rfl⟩ | h
    · rcases List.mem_cons.mp hj with rfl | hj
      · omega
      · have := combs_low n r d (lo + 1) (by omega) t ht j hj
        omega
    · have := combs_low n (r + 1) d (lo + 1) (by omega) l h j hj
      omega
theorem choices_low {n r : Nat} {l : List Nat} (h : l ∈ choices n r) : ∀ j ∈ l, j < n := fun j hj => (combs_low n r n 0 (Nat.zero_add n) l h j hj).2
def natT (l : List Nat) : List V := l.map fun (j : Nat) => V.int (j : Int)
/-- one choice after the other, each a new tuple -/
def YC (n r : Nat) (i : Nat) (H : Hp) (x : V) (H' : Hp) : Prop := ∃ (T : Addr) (l : List Nat), x = .ref T ∧ H T = none ∧ (choices n r)[i]? = some l ∧ H' = upd H T (.tup (natT l))
def Itcb (n r : Nat) : It := ⟨fun i _ => i < (choices n r).length, YC n r, fun i _ => (choices n r).length ≤ i⟩
/-- the iterator's state ahead of turn i -/
def St (n r : Nat) (it p : Addr) (i : Nat) (h : Heap) : Prop := p ≠ it ∧ IsPool h p n ∧ match i with
  | 0 => ∃ last, IsC h it p (if r > n then 2 else 0) last (List.range r)
  | i + 1 => ∃ last l, (choices n r)[i]? = some l ∧ IsC h it p 1 last l
theorem turn_comb {P : Program} {w : World} {K : PySem.W.Frag} {tg : Expr} (it p : Addr) (n r : Nat) (r1000 : r ≤ 1000) : Turn P w K tg (Itcb n r) [it, p] it (St n r it p) where
  mem := by simp
  obj := fun i h st b hb => by
    obtain ⟨ne, ⟨acc, hp, _⟩, hi⟩ := st
    have e' : b = it ∨ b = p := by simpa using hb
    rcases e' with z | z
    · rw [z]
      cases i with
      | zero => obtain ⟨last, hi⟩ := hi; exact ⟨_, hi, fun v q => nomatch (show Data.fields _ = Data.cell v from q)⟩
      | succ i => obtain ⟨last, l, _, hi⟩ := hi; exact ⟨_, hi, fun v q => nomatch (show Data.fields _ = Data.cell v from q)⟩
    · rw [z]
      exact ⟨_, hp, fun v q => nomatch (show Data.seq _ _ = Data.cell v from q)⟩
  keep := fun i h h' st k => by
    obtain ⟨ne, ⟨acc, hp, hs⟩, hi⟩ := st
    refine ⟨ne, ⟨acc, k p (by simp) _ hp, hs⟩, ?_⟩
    cases i with
    | zero => obtain ⟨last, hi⟩ := hi; exact ⟨last, k it (by simp) _ hi⟩
    | succ i => obtain ⟨last, l, e, hi⟩ := hi; exact ⟨last, l, e, k it (by simp) _ hi⟩
  item := by
    intro X hP hw hK hc i pins s σ H E I hf st hg
    subst hP hw hK
    obtain ⟨ne, pool, hi⟩ := st
    have hil : it < s.heap.objs.size := by
      cases i with
      | zero => obtain ⟨last, hi⟩ := hi; exact Heap.lt_size hi
      | succ i => obtain ⟨last, l, _, hi⟩ := hi; exact Heap.lt_size hi
    have hpl : p < s.heap.objs.size := by
      obtain ⟨acc, hp, _⟩ := pool
      exact Heap.lt_size hp
    have gl : i < (choices n r).length := hg
    obtain ⟨nx, enx⟩ : ∃ nx, (choices n r)[i]? = some nx := ⟨_, List.getElem?_eq_getElem gl⟩
    have low := choices_low (List.mem_of_getElem? enx)
    have len := choices_len (List.mem_of_getElem? enx)
    have fin : ∀ (h' : Heap) (us : List Value), us.length = nx.length → (∀ (j k : Nat) , nx[j]? = some k → ∃ t, us[j]? = some (Value.int (k : Int) t)) → IsC h' it p 1 (.ref s.heap.objs.size) nx → h'.get? s.heap.objs.size = some { cls := .type "tuple", data := .seq us.toArray } →
        (∀ b o, b ≠ it → s.heap.get? b = some o → h'.get? b = some o) →
        ∃ u, (some (Value.ref s.heap.objs.size)) = some u ∧ wpAny (model X.prog X.w) X.A (letOwnedTupleGo tg (.ref it) u) (fun _ s2 => ∃ x H', Inv X pins σ H' s2 ∧ RelV x u ∧ (Itcb n r).yld i H x H' ∧ St n r it p (i + 1) s2.heap ∧ ∀ b ∈ [it, p], H' b = none) E { s with heap := h' } := fun h' us hu hx hi ht hk => by
      have rel : Vals (natT nx) us := vals_of_at (by unfold natT; rw [List.length_map, hu]) fun j x u e1 e2 => by
        unfold natT at e1
        rw [List.getElem?_map] at e1
        cases e3 : nx[j]? with
        | none => rw [e3] at e1; cases e1
        | some k =>
          rw [e3] at e1
          cases e1
          obtain ⟨t, e4⟩ := hx j k e3
          rw [e4] at e2
          cases e2
          exact ⟨t, rfl⟩
      have new : ObjOk X.prog X.w (upd H s.heap.objs.size (.tup (natT nx))) h' s.heap.objs.size (.tup (natT nx)) :=
        ⟨by unfold natT; rw [List.length_map, len]; exact Nat.le_trans r1000 (by decide), us, rel, ⟨_, ht, rfl, _, rfl⟩⟩
      have I1 : Inv X pins σ (upd H s.heap.objs.size (.tup (natT nx))) { s with heap := h', toks := s.toks } :=
        I.turnedNew (ch := [it, p]) (fun b ob hb q => hk b ob (fun z => hb (by simp [z])) q) hf (Nat.le_refl _) new
      refine ⟨_, rfl, go_of (s := { s with heap := h' }) (n := "itertools.combinations") hi rfl rfl (by decide) ⟨.ref s.heap.objs.size, _, I1, rfl, ⟨_, nx, rfl, I.hok.fresh (Nat.le_refl _), enx, rfl⟩, ⟨ne, ?_, _, nx, enx, hi⟩, fun b hb => ?_⟩⟩
      · obtain ⟨acc, hp, hs⟩ := pool
        exact ⟨acc, hk p _ ne hp, hs⟩
      · have hb' : b < s.heap.objs.size := by
          have e' : b = it ∨ b = p := by simpa using hb
          rcases e' with z | z
          · rw [z]; exact hil
          · rw [z]; exact hpl
        rw [upd_ne (Nat.ne_of_lt hb')]
        exact (hf b hb).1
    refine next_of ?_
    cases i with
    | zero =>
      obtain ⟨last, hi⟩ := hi
      have rn : r ≤ n := by
        rcases Nat.lt_or_ge n r with z | z
        · rw [choices_none z] at gl
          cases gl
        · exact z
      have st0 : (if r > n then (2 : Int) else 0) = 0 := if_neg (by omega)
      rw [st0] at hi
      rw [choices_first rn] at enx
      cases enx
      exact comb_first hi pool low (by rw [len]; exact r1000) fun h' us a b c d e => ⟨rfl, fin h' us a b c d e⟩
    | succ i =>
      obtain ⟨last, l, e, hi⟩ := hi
      have hn := choices_next e
      rw [enx] at hn
      exact comb_more hi pool hn low (by rw [len]; exact r1000) fun h' us a b c d e => ⟨rfl, fin h' us a b c d e⟩
  done := by
    intro X hP hw hK hc i pins s σ H E I hf st hg
    subst hP hw hK
    obtain ⟨ne, pool, hi⟩ := st
    obtain ⟨f0, f1, f2, f3, f4, f5⟩ := hf it (by simp)
    have gl : (choices n r).length ≤ i := hg
    refine next_of ?_
    have fin : ∀ e h', CpRep.StopE e h' → Heap.ExtBut it s.heap h' → CpRep.StopE e h' ∧ ((none : Option Value) = none ∧ Inv X pins σ H { s with heap := h' }) := fun e h' se eb => ⟨se, rfl, I.turned (t' := s.toks) (fun b o hb e => eb b o hb e) f0 f1 f3 f4 f5⟩
    cases i with
    | zero =>
      obtain ⟨last, hi⟩ := hi
      have rn : r > n := by
        rcases Nat.lt_or_ge n r with z | z
        · exact z
        · have := choices_first z
          rw [List.length_eq_zero_iff.mp (Nat.le_zero.mp gl)] at this
          cases this
      exact comb_end (I.ok.hd hc) hi pool (.inl (if_pos rn)) fin
    | succ i =>
      obtain ⟨last, l, e, hi⟩ := hi
      have hn := choices_next e
      rw [List.getElem?_eq_none gl] at hn
      exact comb_end (I.ok.hd hc) hi pool (.inr ⟨rfl, hn⟩) fin
  self := fun A i s Q E st h => by
    obtain ⟨ne, pool, hi⟩ := st
    cases i with
    | zero => obtain ⟨last, hi⟩ := hi; exact iter_self hi h
    | succ i => obtain ⟨last, l, e, hi⟩ := hi; exact iter_self hi h
section
variable {X : Cx} {tg : Expr}
theorem cr_range1 : CallR X (.type "range") (fun vs H Q => ∃ j, vs = [V.int j] ∧ ∀ p, H p = none → Q (.ref p) (upd H p (.rng 0 j))) := by
  intro pins s σ H vs us Q I r h
  obtain ⟨j, rfl, q⟩ := h
  obtain ⟨u1, rfl, rj⟩ := vals1 r
  obtain ⟨t, rfl⟩ := rj
  refine call_range_1 ⟨.ref s.heap.objs.size, upd H s.heap.objs.size (.rng 0 j), I.laid (t' := s.toks + 1 + 1) (fun b o e => Heap.get?_push_of_some _ e) (Nat.le_refl _) ?_, rfl, q _ (I.hok.fresh (Nat.le_refl _))⟩
  exact ⟨s.toks, t, s.toks + 1, Heap.get?_push_size _ rfl⟩
/-- combinations(range(..), r) walked -/
def iComb (ta : TA) : TI := fun σ H R => ta σ H fun vs H1 => ∃ (a : Addr) (n r : Nat), vs = [.ref a, .int r] ∧ H1 a = some (.rng 0 n) ∧ n ≤ 1000 ∧ r ≤ 1000 ∧ R (Itcb n r) H1
theorem pi_comb {e e2 : Expr} {ta : TA} {p pos : Pos} {x : Str} (hg : Gl X x) (hm : X.mg x = some (.type "itertools.combinations")) (ha : PA X [e, e2] ta) (hcalm : X.calm = true := by rfl) (hdb : (x == ("__debug__" : Str)) = false := by decide)
    (hs : starEach [e, e2] X.env = [(false, eval e X.env), (false, eval e2 X.env)] := by rfl) (hs2 : starEach [e2] X.env = [(false, eval e2 X.env)] := by rfl) : PI X tg (.Call (.Name x p) [e, e2] [] pos) (iComb ta) := by
  refine ⟨fun pins s σ H R I h => ?_⟩
  refine Call_ (ld_glob I hg hm (PyProof.Rows.callWith_type1 (thn (ha.run pos pins s σ H _ I h) fun us s1 ⟨vs, H1, I1, r1, q1⟩ => ?_) (by rw [hs, hs2]) (by rw [hs2]; rfl)) hdb)
  obtain ⟨a, n, r, ex, hr, n1, r1', q⟩ := q1
  subst ex
  cases r1 with
  | cons ra rr =>
    cases rr with
    | cons rb rr =>
      cases rr
      cases ra
      obtain ⟨t, rfl⟩ := rb
      obtain ⟨t1, t2, t3, hrg⟩ := (show ObjOk X.prog X.w H1 s1.heap a (.rng 0 n) from I1.hok _ _ hr)
      refine callType_codes (Q₁ := fun obj s₁ => s₁.TypeIs obj "itertools.combinations" ∧ wpAny (model X.prog X.w) X.A (pyIter obj) (PIE X pins σ tg R) X.xe s₁) called_c (typeCall_c_2 _ _) F.entry_object_init
        (code_c_new (A := X.A.in1) (I1.ok.hd hcalm) hrg n1 r1' fun h1 h' tk k1 k2 pool hc => ⟨⟨_, hc, rfl⟩, ?_⟩) fun obj s₁ h₁ => ?_
      · have I2 : Inv X pins σ H1 { s1 with heap := h1, toks := tk } := I1.kept k1
        have I3 : Inv X pins σ H1 { s1 with heap := h', toks := tk } := I2.kept (t' := tk) k2
        refine iter_self hc ?_
        refine ⟨h1.objs.size + 1, [h1.objs.size + 1, h1.objs.size], _, _, H1, rfl, I3, turn_comb (h1.objs.size + 1) h1.objs.size n r r1', ⟨(Nat.succ_ne_self _).symm, pool, _, hc⟩, fun b hb => ?_, q⟩
        have e' : b = h1.objs.size + 1 ∨ b = h1.objs.size := by simpa using hb
        have hle : h1.objs.size ≤ b := by
          rcases e' with z | z
          · rw [z]; exact Nat.le_add_right _ _
          · rw [z]; exact Nat.le_refl _
        have f0 := I2.fpOk (H' := H1) hle (I2.hok.fresh hle)
        exact f0
      · exact ⟨h₁.1, F.args_object_init_3 obj _ _, object_init_meets called_c.init.lookup called_c.made (by decide +kernel) X.prog X.w X.A.in1 _ s₁ ⟨h₁.1, rfl, h₁.2⟩⟩
theorem walk_comb {n r : Nat} : Walk (Itcb n r) (choices n r).length (fun _ => True) (YC n r) := ⟨fun _ _ h _ => h, fun _ _ => Nat.le_refl _, fun _ _ _ _ _ _ y => y⟩
end
end Cmb

/-! Places within a text: a block's statement, a statement's block, its expression, an expression's part. -/
namespace GL
open PySem PySem.Spec PyProof.Rows L2
def wS (l : List Stmt) (i : Nat) : Stmt := l.getD i (.Pass ⟨0, 0, 0, 0⟩)
def wN : Expr := .Name "" ⟨0, 0, 0, 0⟩
def wB : Stmt → Nat → List Stmt
  | .If _ b _ _, 0 => b
  | .If _ _ b _, 1 => b
  | .For _ _ b _ _, 0 => b
  | .For _ _ _ b _, 1 => b
  | .While _ b _ _, 0 => b
  | .While _ _ b _, 1 => b
  | .Try b _ _ _ _, 0 => b
  | .Try _ _ b _ _, 1 => b
  | .Try _ hs _ _ _, n => match hs[n - 2]? with | some (.ExceptHandler _ _ b _) => b | none => []
  | _, _ => []
def wX : Stmt → Nat → Expr
  | .Return (some e) _, 0 => e
  | .Assign _ e _, 0 => e
  | .Assign ts _ _, n => ts.getD (n - 1) wN
  | .AugAssign _ _ e _, 0 => e
  | .AugAssign t _ _ _, _ => t
  | .Expr e _, _ => e
  | .If c _ _ _, _ => c
  | .While c _ _ _, _ => c
  | .For _ i _ _ _, 0 => i
  | .For t _ _ _ _, _ => t
  | .Raise (some e) _ _, _ => e
  | .Delete ts _, n => ts.getD n wN
  | _, _ => wN
def wE : Expr → Nat → Expr
  | .BoolOp _ vs _, n => vs.getD n wN
  | .BinOp a _ b _, n => if n = 0 then a else b
  | .UnaryOp _ a _, _ => a
  | .IfExp a b c _, n => if n = 0 then a else if n = 1 then b else c
  | .Compare a _ cs _, n => (a :: cs).getD n wN
  | .Call f as ks _, n => if n = 99 then f else if n < 99 then as.getD n wN else match ks[n - 100]? with | some k => k.value | none => wN
  | .Attribute a _ _, _ => a
  | .Subscript a b _, n => if n = 0 then a else b
  | .List es _, n => es.getD n wN
  | .Tuple es _ _, n => es.getD n wN
  | .Slice a b c _, n => (if n = 0 then a else if n = 1 then b else c).getD wN
  | .ListComp e gs _ _, n => if n = 0 then e else match gs.head? with | some g => if n = 1 then g.iter else g.ifs.getD (n - 2) wN | none => wN
  | .DictComp k v gs _ _, n => if n = 0 then k else if n = 50 then v else match gs.head? with | some g => if n = 1 then g.iter else g.ifs.getD (n - 2) wN | none => wN
  | _, _ => wN
def wC : Expr → Scope
  | .ListComp _ _ sc _ => sc
  | .DictComp _ _ _ sc _ => sc
  | _ => { kind := .function, names := [], isGenerator := false, isCoroutine := false }
abbrev rMax2 : List V → Hp → VK → Prop := fun xs H Q => ∃ i j, xs = [V.int i, V.int j] ∧ Q (V.int (if j > i then j else i)) H
abbrev rMin2 : List V → Hp → VK → Prop := fun xs H Q => ∃ i j, xs = [V.int i, V.int j] ∧ Q (V.int (if j < i then j else i)) H
abbrev rInt1 : List V → Hp → VK → Prop := fun xs H Q => (∃ i, xs = [V.int i] ∧ Q (V.int i) H) ∨ ∃ k, xs = [V.bl k] ∧ Q (V.int (if k = true then 1 else 0)) H
end GL

namespace GL
open PySem PySem.Spec PyProof.Rows L2
section
variable {P : Program} {w : World} {K : PySem.W.Frag} {mg : Str → Option Value} {base : Heap}
/-- the built-in names that the text uses are still the built-in ones -/
structure Bi (mg : Str → Option Value) : Prop where
  int : mg "int" = none
  len : mg "len" = none
  sum : mg "sum" = none
  max : mg "max" = none
  min : mg "min" = none
  range : mg "range" = none
  isinstance : mg "isinstance" = none
  bool : mg "bool" = none
  list : mg "list" = none
  tuple : mg "tuple" = none
  all : mg "all" = none
  enumerate : mg "enumerate" = none
  repr : mg "repr" = none
  zip : mg "zip" = none
  any : mg "any" = none
  set : mg "set" = none
  sorted : mg "sorted" = none
def spHash : Sp := fun vs H Q _ => ∃ b c : Int, vs = [.int b, .int c] ∧ 0 ≤ b ∧ b < 2147483647 ∧ 0 ≤ c ∧ c < 1099511627776 ∧ ∀ r : Int, 0 ≤ r → r < 2147483647 → Q (.int r) H
/-- a list of three numbers that is drawn from: n are the draws' steps that are left -/
def Gen (H : Hp) (g : Addr) (n : Nat) : Prop := ∃ a b c : Int, H g = some (.lst [.int a, .int b, .int c]) ∧ 0 ≤ b ∧ b < 2147483647 ∧ 0 ≤ c ∧ c + n ≤ 1099511627000
theorem Gen.less {H : Hp} {g : Addr} {n m : Nat} (h : Gen H g n) (l : m ≤ n) : Gen H g m := by
  obtain ⟨a, b, c, h1, h2, h3, h4, h5⟩ := h
  exact ⟨a, b, c, h1, h2, h3, h4, by omega⟩
/-- all that was tracked but g is as it was -/
def But (g : Addr) (H H' : Hp) : Prop := ∀ b o, H b = some o → b ≠ g → H' b = some o
theorem But.refl {g : Addr} {H : Hp} : But g H H := fun _ _ e _ => e
theorem But.trans {g : Addr} {H H1 H2 : Hp} (a : But g H H1) (b : But g H1 H2) : But g H H2 := fun c o e n => b c o (a c o e n) n
theorem But.of {g : Addr} {H H' : Hp} (s : Same H H') : But g H H' := fun b o e _ => s b o e
theorem But.new {g p : Addr} {H : Hp} {o : HO} (h : H p = none) : But g H (upd H p o) := .of (same_new h)
theorem But.put {g : Addr} {H : Hp} {o : HO} : But g H (upd H g o) := fun b o' e n => by rw [upd_ne n]; exact e
theorem Gen.ne {H : Hp} {g p : Addr} {n : Nat} (h : Gen H g n) (e : H p = none) : g ≠ p := by
  obtain ⟨a, b, c, h1, _⟩ := h
  exact ne_of_none h1 e
theorem Gen.new {H : Hp} {g p : Addr} {n : Nat} {o : HO} (h : Gen H g n) (e : H p = none) : Gen (upd H p o) g n := by
  have ne := h.ne e
  obtain ⟨a, b, c, h1, r⟩ := h
  exact ⟨a, b, c, by rw [upd_ne ne]; exact h1, r⟩
theorem Gen.other {H : Hp} {g p : Addr} {n : Nat} {o : HO} (h : Gen H g n) (ne : p ≠ g) : Gen (upd H p o) g n := by
  obtain ⟨a, b, c, h1, r⟩ := h
  exact ⟨a, b, c, by rw [upd_ne ne.symm]; exact h1, r⟩
def spRandom : Sp := fun vs H Q _ => ∃ (g : Addr) (m : Int) (n : Nat), vs = [.ref g, .int m] ∧ 0 < m ∧ m < 1329227995784915872903807060280344576 ∧ Gen H g (n + 5) ∧
  ∀ (r : Int) (H' : Hp), 0 ≤ r → r < m → Gen H' g n → But g H H' → Q (.int r) H'
theorem bits_le {m : Int} (h0 : 0 < m) (h : m < 1329227995784915872903807060280344576) : (Builtin.Int.intBits m : Int) / 30 ≤ 4 ∧ 0 ≤ (Builtin.Int.intBits m : Int) / 30 := by
  have l : m.natAbs < 2 ^ 120 := by omega
  have b : Builtin.Int.intBits m ≤ 120 := by
    have x := PySem.Flt.log2_lt_of (by decide : 0 < 120) l
    unfold Builtin.Int.intBits
    split <;> omega
  omega
theorem cut_ints (ns : List Int) (lo hi : Option Int) : ∃ l : List Int, cutV (ns.map V.int) lo hi = l.map V.int ∧ l.length ≤ ns.length := by
  refine ⟨(ns.drop (HT.sIx (ns.map V.int).length 0 lo)).take (HT.sIx (ns.map V.int).length (ns.map V.int).length hi - HT.sIx (ns.map V.int).length 0 lo), ?_, ?_⟩
  · unfold cutV
    rw [← List.map_drop, ← List.map_take]
  · rw [List.length_take, List.length_drop]
    omega
def spCell (K : PySem.W.Frag) : Sp := fun vs H Q _ => ∃ (a : Addr) (ns : List Int) (i : Nat), vs = [.ref a, .int i] ∧ SqL K H a (ns.map V.int) ∧ ∀ (r : Int) (H' : Hp), Same H H' → Q (.int r) H'
def spGen (K : PySem.W.Frag) : Sp := fun vs H Q _ => ∃ (a : Addr) (ns : List Int) (i : Nat), vs = [.ref a, .int i] ∧ i ≤ 100 ∧ SqL K H a (ns.map V.int) ∧ ∀ (g : Addr) (H' : Hp), Same H H' → H g = none → Gen H' g 1000000 → Q (.ref g) H'
theorem pow60 : CPowW ((10 : Int) ^ (60 : Int).toNat) 10 := ⟨by decide, by decide +kernel⟩
theorem pow600 : (0 : Int) < ((10 : Int) ^ (60 : Int).toNat) ^ (10 : Int).toNat := Int.pow_pos (Int.pow_pos (by decide))
def whole (d : PyData) : Bool := isInt d && !isBool d
def below (k : Int) : PyData → Bool
  | .int i => decide (0 ≤ i) && decide (i < k)
  | _ => false
def rowOk (k n : Int) : PyData → Bool
  | .list ds => decide ((ds.length : Int) = n) && ds.all (below k)
  | _ => false
def rowsOk (k : Int) : Nat → List PyData → Bool
  | _, [] => true
  | n, d :: ds => rowOk k n d && rowsOk k (n + 1) ds
def compOk (k : Int) : PyData → Bool
  | .list ds => (decide (1 ≤ ds.length) && decide (ds.length ≤ 40)) && rowsOk k 0 ds
  | _ => false
def spWhole (K : PySem.W.Frag) : Sp := fun vs H Q _ => ∃ x d, vs = [x] ∧ Dt K H x d ∧ Q (.bl (whole d)) H
def spBelow (K : PySem.W.Frag) : Sp := fun vs H Q _ => ∃ x d k, vs = [x, .int k] ∧ Dt K H x d ∧ Q (.bl (below k d)) H
theorem whole_cases (d : PyData) : (∃ i, d = .int i ∧ whole d = true) ∨ (whole d = false ∧ ∀ k, below k d = false) := by
  cases d with
  | int i => exact .inl ⟨i, rfl, rfl⟩
  | _ => exact .inr ⟨rfl, fun _ => rfl⟩
def spKinds (K : PySem.W.Frag) : Sp := fun vs H Q _ => ∃ k : Int, vs = [.int k] ∧ 2 ≤ k ∧ k ≤ 9 ∧ Q (.bl true) H
/-- the bounds, as the text has written them -/
structure Cs (mg : Str → Option Value) : Prop where
  least : ∃ t, mg "LEAST_KINDS" = some (.int 2 t)
  most : ∃ t, mg "MOST_KINDS" = some (.int 9 t)
  people : ∃ t, mg "MOST_PEOPLE" = some (.int 40 t)
def spRow (K : PySem.W.Frag) : Sp := fun vs H Q _ => ∃ x d k n, vs = [.int k, .int n, x] ∧ n ≤ 1000 ∧ Dt K H x d ∧ ∀ H', Same H H' → Q (.bl (rowOk k n d)) H'
theorem take_more {α β : Type} (f : α → β) {l : List α} {i : Nat} {x : α} (h : l[i]? = some x) : (l.take (i + 1)).map f = (l.take i).map f ++ [f x] := by
  rw [List.take_add_one, h, List.map_append]
  rfl
theorem rowsOk_all (k : Int) : ∀ (ds : List PyData) (n : Nat), rowsOk k n ds = (((List.range ds.length).map fun j => rowOk k ((n + j : Nat) : Int) (ds.getD j .none))).all id
  | [], _ => rfl
  | d :: ds, n => by
    have ih := rowsOk_all k ds (n + 1)
    show (rowOk k n d && rowsOk k (n + 1) ds) = _
    rw [ih, List.length_cons, List.range_succ_eq_map, List.map_cons, List.map_map, List.all_cons]
    have e : (List.range ds.length).map (fun j => rowOk k ((n + 1 + j : Nat) : Int) (ds.getD j .none)) = (List.range ds.length).map ((fun j => rowOk k ((n + j : Nat) : Int) ((d :: ds).getD j .none)) ∘ Nat.succ) := by
      refine List.map_congr_left fun j _ => ?_
      show rowOk k ((n + 1 + j : Nat) : Int) (ds.getD j .none) = rowOk k ((n + (j + 1) : Nat) : Int) (ds.getD j .none)
      rw [show n + 1 + j = n + (j + 1) by omega]
    rw [e]
    rfl
theorem all_range_more (f : Nat → Bool) (i : Nat) : (((List.range (i + 1)).map f).map V.bl) = ((List.range i).map f).map V.bl ++ [V.bl (f i)] := by
  rw [List.range_succ, List.map_append, List.map_append]
  rfl
def spCompOf (K : PySem.W.Frag) : Sp := fun vs H Q _ => ∃ x d k, vs = [.int k, x] ∧ Dt K H x d ∧ ∀ H', Same H H' → Q (.bl (compOk k d)) H'
/-- at c a list of the lists at rs, which hold the numbers kss -/
structure Tab (H : Hp) (c : Addr) (rs : List Addr) (kss : List (List Int)) : Prop where
  top : H c = some (.lst (rs.map V.ref))
  len : rs.length = kss.length
  row : ∀ (i : Nat) (r : Addr) (ks : List Int), rs[i]? = some r → kss[i]? = some ks → H r = some (.lst (ks.map V.int))
  nd : rs.Nodup
/-- the numbers of a company -/
def Fine (k : Int) (kss : List (List Int)) : Prop := ∀ (i : Nat) (ks : List Int), kss[i]? = some ks → ks.length = i ∧ ∀ z ∈ ks, 0 ≤ z ∧ z < k
theorem Tab.same {H H' : Hp} {c : Addr} {rs : List Addr} {kss : List (List Int)} (t : Tab H c rs kss) (s : Same H H') : Tab H' c rs kss := ⟨s _ _ t.top, t.len, fun i r ks a b => s _ _ (t.row i r ks a b), t.nd⟩
theorem Tab.at {H : Hp} {c : Addr} {rs : List Addr} {kss : List (List Int)} (t : Tab H c rs kss) {i : Nat} (hi : i < kss.length) : ∃ r ks, rs[i]? = some r ∧ kss[i]? = some ks ∧ H r = some (.lst (ks.map V.int)) := by
  have h2 : i < rs.length := by rw [t.len]; exact hi
  exact ⟨rs[i], kss[i], List.getElem?_eq_getElem h2, List.getElem?_eq_getElem hi, t.row i _ _ (List.getElem?_eq_getElem h2) (List.getElem?_eq_getElem hi)⟩
def exprOf : Stmt → Expr
  | .Return (some e) _ => e
  | .Assign _ e _ => e
  | _ => .Name "" ⟨0, 0, 0, 0⟩
def stmtIn (l : List Stmt) (i : Nat) : Stmt := l.getD i (.Pass ⟨0, 0, 0, 0⟩)
def compScope : Expr → Scope
  | .ListComp _ _ sc _ => sc
  | _ => { kind := .function, names := [], isGenerator := false, isCoroutine := false }
theorem cut_to {xs : List V} {i : Nat} (h : i ≤ xs.length) : cutV xs none (some (i : Int)) = xs.take i := by
  unfold cutV
  rw [HT.sIx_none, HT.sIx_nat, Nat.min_eq_left h]
  rfl
theorem Tab.push {H H4 : Hp} {c p : Addr} {rs : List Addr} {kss : List (List Int)} {ks : List Int} (t : Tab H c rs kss) (nc : c ∉ rs) (s : ∀ r ∈ rs, ∀ o, H r = some o → H4 r = some o) (hp : H p = none) (h4 : H4 p = some (.lst (ks.map V.int))) :
    Tab (upd H4 c (.lst (rs.map V.ref ++ [V.ref p]))) c (rs ++ [p]) (kss ++ [ks]) ∧ c ∉ rs ++ [p] := by
  have pc : c ≠ p := ne_of_none t.top hp
  have held : ∀ r ∈ rs, ∃ o, H r = some o := fun r hr => by
    obtain ⟨i, hi⟩ := List.getElem?_of_mem hr
    have h2 : i < kss.length := by rw [← t.len]; exact (List.getElem?_eq_some_iff.mp hi).1
    exact ⟨_, t.row i r _ hi (List.getElem?_eq_getElem h2)⟩
  have np : p ∉ rs := fun hr => by
    obtain ⟨o, e⟩ := held p hr
    rw [hp] at e
    cases e
  refine ⟨⟨?_, ?_, ?_, ?_⟩, ?_⟩
  · rw [upd_same, List.map_append]
    rfl
  · rw [List.length_append, List.length_append, t.len]
    rfl
  · intro i r ks' h1 h2
    by_cases hi : i < rs.length
    · rw [List.getElem?_append_left hi] at h1
      rw [List.getElem?_append_left (by rw [← t.len]; exact hi)] at h2
      have e := t.row i r ks' h1 h2
      have rc : r ≠ c := fun z => nc (by rw [← z]; exact List.mem_of_getElem? h1)
      rw [upd_ne rc]
      exact s r (List.mem_of_getElem? h1) _ e
    · rw [List.getElem?_append_right (by omega)] at h1
      rw [List.getElem?_append_right (by rw [← t.len]; omega)] at h2
      have i0 : i - rs.length = 0 := by
        have := (List.getElem?_eq_some_iff.mp h1).1
        simp at this
        omega
      rw [i0] at h1
      rw [← t.len, i0] at h2
      cases h1
      cases h2
      rw [upd_ne pc.symm]
      exact h4
  · rw [List.nodup_append]
    refine ⟨t.nd, by simp, fun a ha b hb => ?_⟩
    rw [List.mem_singleton] at hb
    subst hb
    exact fun z => np (by rw [← z]; exact ha)
  · rw [List.mem_append, List.mem_singleton]
    rintro (z | z)
    · exact nc z
    · exact pc z
theorem Fine.nil {k : Int} : Fine k [] := fun i ks h => by simp at h
theorem Fine.push {k : Int} {kss : List (List Int)} {ks : List Int} (f : Fine k kss) (l : ks.length = kss.length) (b : ∀ z ∈ ks, 0 ≤ z ∧ z < k) : Fine k (kss ++ [ks]) := by
  intro i ks' h
  by_cases hi : i < kss.length
  · rw [List.getElem?_append_left hi] at h
    exact f i ks' h
  · rw [List.getElem?_append_right (by omega)] at h
    have i0 : i - kss.length = 0 := by
      have := (List.getElem?_eq_some_iff.mp h).1
      simp at this
      omega
    rw [i0] at h
    cases h
    exact ⟨by omega, b⟩
theorem Tab.but {H H' : Hp} {c g : Addr} {rs : List Addr} {kss : List (List Int)} (t : Tab H c rs kss) (b : But g H H') (h1 : c ≠ g) (h2 : g ∉ rs) : Tab H' c rs kss :=
  ⟨b _ _ t.top h1, t.len, fun i r ks x y => b _ _ (t.row i r ks x y) fun z => h2 (by rw [← z]; exact List.mem_of_getElem? x), t.nd⟩
def natV (os : List Nat) : List V := os.map fun (j : Nat) => V.int (j : Int)
theorem seq_in {r : Int} {n : Nat} (h0 : 0 ≤ r) (h1 : r < n) : seqIndex? r n = some r.toNat := by
  unfold seqIndex?
  rw [if_neg (by omega : ¬ r < 0), if_pos (by simp [h0, h1])]
theorem rg_nat (n : Nat) : rgV 0 (n : Int) = natV (List.range n) := by
  unfold rgV natV
  rw [show ((n : Int) - 0).toNat = n by omega]
  exact List.map_congr_left fun j _ => by rw [Int.zero_add]
theorem erase_map : ∀ {os : List Nat} (k : Nat), (natV os).eraseIdx k = natV (os.eraseIdx k)
  | [], k => by cases k <;> rfl
  | a :: os, 0 => rfl
  | a :: os, k + 1 => congrArg (V.int (a : Int) :: ·) (erase_map (os := os) k)
theorem perm_erase : ∀ {l : List Nat} {k : Nat} {y : Nat}, l[k]? = some y → (y :: l.eraseIdx k).Perm l
  | [], k, y, h => by simp at h
  | a :: l, 0, y, h => by
    cases h
    exact .refl _
  | a :: l, k + 1, y, h => (List.Perm.swap a y (l.eraseIdx k)).trans (List.Perm.cons a (perm_erase (l := l) (k := k) h))
def ifBody : Stmt → List Stmt
  | .If _ b _ _ => b
  | _ => []
def forBody : Stmt → List Stmt
  | .For _ _ b _ _ => b
  | _ => []
theorem rep_one (n : Nat) (k : Int) : (List.replicate n [V.int k]).flatten = (List.replicate n k).map V.int := by
  induction n with
  | zero => rfl
  | succ n ih =>
    rw [List.replicate_succ, List.replicate_succ, List.flatten_cons, ih]
    rfl
theorem notin_new {H : Hp} {g : Addr} {n : Nat} {rs : List Addr} (G : Gen H g n) (nR : ∀ r ∈ rs, H r = none) : g ∉ rs := fun z => by
  obtain ⟨a, b, c, h1, _⟩ := G
  have := nR g z
  rw [h1] at this
  cases this
theorem but_free {H H' : Hp} {g p : Addr} {n' : Nat} (b : But g H H') (G' : Gen H' g n') (hp : H' p = none) : H p = none := by
  have pg : p ≠ g := (G'.ne hp).symm
  cases q : H p with
  | none => rfl
  | some o =>
    rw [b p o q pg] at hp
    cases hp
theorem Gen.same {H H' : Hp} {g : Addr} {n : Nat} (h : Gen H g n) (s : Same H H') : Gen H' g n := by
  obtain ⟨a, b, c, h1, r⟩ := h
  exact ⟨a, b, c, s _ _ h1, r⟩
theorem cut_one (xs : List V) : cutV xs (some 1) none = xs.drop 1 := by
  unfold cutV
  rw [HT.sIx_none, show HT.sIx xs.length 0 (some 1) = min 1 xs.length from HT.sIx_nat xs.length 0 1]
  cases xs with
  | nil => rfl
  | cons x xs =>
    have e : min 1 (x :: xs).length = 1 := by
      rw [List.length_cons]
      omega
    rw [e]
    exact List.take_of_length_le (by rw [List.length_drop]; omega)
theorem gen (H : Hp) {p : Addr} (h : H p = none) (o : HO) : ∃ H', upd H p o = H' ∧ Same H H' ∧ H' p = some o := ⟨_, rfl, same_new h, upd_same⟩
theorem one_le : 1 ≤ sizeLine := by decide
/-- the tie of two people -/
def tieN (kss : List (List Int)) (i j : Nat) : Int := (kss.getD (max i j) []).getD (min i j) 0
theorem tieN_comm (kss : List (List Int)) (i j : Nat) : tieN kss i j = tieN kss j i := by
  unfold tieN
  rw [Nat.max_comm, Nat.min_comm]
theorem tieN_in {k : Int} {kss : List (List Int)} (f : Fine k kss) {i j : Nat} (hi : i < kss.length) (hj : j < kss.length) (ne : i ≠ j) : 0 ≤ tieN kss i j ∧ tieN kss i j < k := by
  have hm : max i j < kss.length := by omega
  have e : kss.getD (max i j) [] = kss[max i j] := by rw [List.getD_eq_getElem?_getD, List.getElem?_eq_getElem hm]; rfl
  obtain ⟨a, b⟩ := f _ _ (List.getElem?_eq_getElem hm)
  have hl : min i j < kss[max i j].length := by omega
  unfold tieN
  rw [e, List.getD_eq_getElem?_getD, List.getElem?_eq_getElem hl]
  exact b _ (List.getElem_mem hl)
def spCheck : Sp := fun vs H Q _ => ∃ k : Int, vs = [.int k] ∧ 2 ≤ k ∧ k ≤ 9 ∧ Q .non H
def spCheckC (K : PySem.W.Frag) : Sp := fun vs H Q _ => ∃ (k : Int) (x : V) (d : PyData), vs = [.int k, x] ∧ 2 ≤ k ∧ k ≤ 9 ∧ Dt K H x d ∧ compOk k d = true ∧ ∀ H', Same H H' → Q .non H'
def spTie : Sp := fun vs H Q _ => ∃ (c : Addr) (rs : List Addr) (kss : List (List Int)) (k : Int) (one other : Nat), vs = [.ref c, .int one, .int other] ∧ Tab H c rs kss ∧ Fine k kss ∧ one < kss.length ∧ other < kss.length ∧ one ≠ other ∧ Q (.int (tieN kss one other)) H
structure Mat (H : Hp) (p : Addr) (ps : List Addr) (n : Nat) (f : Nat → Nat → V) : Prop where
  top : H p = some (.lst (ps.map V.ref))
  len : ps.length = n
  row : ∀ (i : Nat) (r : Addr), ps[i]? = some r → H r = some (.lst ((List.range n).map (f i)))
  nd : ps.Nodup
  np : p ∉ ps
theorem Mat.same {H H' : Hp} {p : Addr} {ps : List Addr} {n : Nat} {f : Nat → Nat → V} (m : Mat H p ps n f) (s : Same H H') : Mat H' p ps n f := ⟨s _ _ m.top, m.len, fun i r h => s _ _ (m.row i r h), m.nd, m.np⟩
theorem Mat.at {H : Hp} {p : Addr} {ps : List Addr} {n : Nat} {f : Nat → Nat → V} (m : Mat H p ps n f) {i : Nat} (hi : i < n) : ∃ r, ps[i]? = some r ∧ H r = some (.lst ((List.range n).map (f i))) := by
  have h2 : i < ps.length := by rw [m.len]; exact hi
  exact ⟨ps[i], List.getElem?_eq_getElem h2, m.row i _ (List.getElem?_eq_getElem h2)⟩
theorem Mat.congr {H : Hp} {p : Addr} {ps : List Addr} {n : Nat} {f g : Nat → Nat → V} (m : Mat H p ps n f) (e : ∀ i j, i < n → j < n → f i j = g i j) : Mat H p ps n g := ⟨m.top, m.len, fun i r h => by
  have hi : i < n := by rw [← m.len]; exact (List.getElem?_eq_some_iff.mp h).1
  rw [m.row i r h, List.map_congr_left fun j hj => e i j hi (List.mem_range.mp hj)], m.nd, m.np⟩
theorem Mat.set {H : Hp} {p r : Addr} {ps : List Addr} {n i j : Nat} {f : Nat → Nat → V} {v : V} (m : Mat H p ps n f) (hr : ps[i]? = some r) (hj : j < n) :
    Mat (upd H r (.lst (((List.range n).map (f i)).set j v))) p ps n fun a b => if a = i ∧ b = j then v else f a b := by
  have pr : p ≠ r := fun z => m.np (by rw [z]; exact List.mem_of_getElem? hr)
  refine ⟨by rw [upd_ne pr]; exact m.top, m.len, fun a q ha => ?_, m.nd, m.np⟩
  by_cases c : a = i
  · subst c
    rw [hr] at ha
    cases ha
    rw [upd_same]
    congr 2
    apply List.ext_getElem
    · rw [List.length_set, List.length_map, List.length_map]
    · intro b h1 h2
      rw [List.getElem_set, List.getElem_map, List.getElem_map, List.getElem_range]
      by_cases cb : j = b
      · subst cb
        rw [if_pos rfl, if_pos ⟨rfl, rfl⟩]
      · rw [if_neg cb, if_neg (fun z => cb z.2.symm)]
  · have qr : q ≠ r := fun z => by
      subst z
      have h1 := (List.getElem?_eq_some_iff.mp hr).1
      have h2 := (List.getElem?_eq_some_iff.mp ha).1
      have e := (List.getElem?_eq_some_iff.mp hr).2.trans (List.getElem?_eq_some_iff.mp ha).2.symm
      have nd := List.pairwise_iff_getElem.mp m.nd
      rcases Nat.lt_or_ge a i with z | z
      · exact nd a i h2 h1 z e.symm
      · exact nd i a h1 h2 (by omega) e
    rw [upd_ne qr, m.row a q ha]
    congr 2
    exact List.map_congr_left fun b _ => by rw [if_neg (fun z => c z.1)]
theorem ixN_nat {n j : Nat} (h : j < n) : ixN n (j : Int) = some j := by
  unfold ixN
  rw [if_pos (by omega), if_pos (by omega), Int.toNat_natCast]
def rLen (K : PySem.W.Frag) : List V → Hp → VK → Prop := fun xs H Q => ∃ p ys, xs = [.ref p] ∧ (SqL K H p ys ∨ SqT K H p ys) ∧ Q (.int ys.length) H
/-- the tie of two, none of one with itself -/
def tieV (kss : List (List Int)) (i j : Nat) : V := if i = j then .non else .int (tieN kss i j)
/-- the table when all above row m is put down, and r of row m -/
def ent (kss : List (List Int)) (m r i j : Nat) : V := if i ≠ j ∧ (max i j < m ∨ (max i j = m ∧ min i j < r)) then .int (tieN kss i j) else .non
theorem ent_zero (kss : List (List Int)) (i j : Nat) : ent kss 0 0 i j = .non := if_neg (by omega)
theorem ent_row (kss : List (List Int)) (m : Nat) : ent kss m m = ent kss (m + 1) 0 := by
  funext i j
  unfold ent
  by_cases h : i ≠ j ∧ (max i j < m ∨ (max i j = m ∧ min i j < m))
  · rw [if_pos h, if_pos (by omega)]
  · rw [if_neg h, if_neg (by omega)]
theorem ent_all (kss : List (List Int)) (n i j : Nat) (hi : i < n) (hj : j < n) : ent kss n 0 i j = tieV kss i j := by
  unfold ent tieV
  by_cases h : i = j
  · rw [if_neg (by omega), if_pos h]
  · rw [if_pos (by omega), if_neg h]
theorem ent_next (kss : List (List Int)) {m r : Nat} (h : r < m) : (fun a b => if a = m ∧ b = r then V.int (tieN kss m r) else (if a = r ∧ b = m then V.int (tieN kss m r) else ent kss m r a b)) = ent kss m (r + 1) := by
  funext i j
  unfold ent
  by_cases c1 : i = m ∧ j = r
  · obtain ⟨rfl, rfl⟩ := c1
    rw [if_pos ⟨rfl, rfl⟩, if_pos (by omega)]
  · rw [if_neg c1]
    by_cases c2 : i = r ∧ j = m
    · obtain ⟨rfl, rfl⟩ := c2
      rw [if_pos ⟨rfl, rfl⟩, if_pos (by omega), tieN_comm]
    · rw [if_neg c2]
      by_cases c3 : i ≠ j ∧ (max i j < m ∨ (max i j = m ∧ min i j < r))
      · rw [if_pos c3, if_pos (by omega)]
      · rw [if_neg c3, if_neg (by omega)]
theorem rep_non (n : Nat) : (List.replicate n [V.non]).flatten = List.replicate n V.non := by
  induction n with
  | zero => rfl
  | succ n ih =>
    rw [List.replicate_succ, List.replicate_succ, List.flatten_cons, ih]
    rfl
theorem rep_range (n : Nat) (v : V) : List.replicate n v = (List.range n).map fun _ => v := by
  apply List.ext_getElem
  · rw [List.length_replicate, List.length_map, List.length_range]
  · intro i h1 h2
    rw [List.getElem_replicate, List.getElem_map]
def spTies : Sp := fun vs H Q _ => ∃ (c : Addr) (rs : List Addr) (kss : List (List Int)) (k : Int), vs = [.ref c] ∧ Tab H c rs kss ∧ Fine k kss ∧ kss.length ≤ 100 ∧
  ∀ (p : Addr) (ps : List Addr) (H' : Hp), Same H H' → Mat H' p ps kss.length (tieV kss) → (∀ r ∈ ps, H r = none) → Q (.ref p) H'
theorem dts_ints {K : PySem.W.Frag} {H : Hp} : ∀ ks : List Int, Dts K H (ks.map V.int) (ks.map PyData.int)
  | [] => .nil
  | k :: ks => .cons (.int k) (dts_ints ks)
theorem dts_rows {K : PySem.W.Frag} {H : Hp} : ∀ {rs : List Addr} {kss : List (List Int)}, rs.length = kss.length → (∀ (i : Nat) r ks, rs[i]? = some r → kss[i]? = some ks → H r = some (.lst (ks.map V.int))) → Dts K H (rs.map V.ref) (kss.map rowP)
  | [], [], _, _ => .nil
  | [], _ :: _, l, _ => by simp at l
  | _ :: _, [], l, _ => by simp at l
  | r :: rs, ks :: kss, l, h => .cons (.lst (h 0 r ks rfl rfl) (dts_ints ks)) (dts_rows (Nat.succ.inj l) fun i r' ks' a b => h (i + 1) r' ks' a b)
theorem Tab.dt {K : PySem.W.Frag} {H : Hp} {c : Addr} {rs : List Addr} {kss : List (List Int)} (t : Tab H c rs kss) : Dt K H (.ref c) (tabP kss) := .lst t.top (dts_rows t.len t.row)
theorem rows_get {k : Int} {ds : List PyData} (n : Nat) : rowsOk k n ds = true ↔ ∀ (j : Nat) (d : PyData), ds[j]? = some d → rowOk k ((n + j : Nat) : Int) d = true := by
  induction ds generalizing n with
  | nil => exact ⟨fun _ j d h => by simp at h, fun _ => rfl⟩
  | cons a ds ih =>
    show (rowOk k n a && rowsOk k (n + 1) ds) = true ↔ _
    rw [Bool.and_eq_true, ih]
    constructor
    · rintro ⟨h1, h2⟩ j d h
      cases j with
      | zero =>
        cases h
        exact h1
      | succ j =>
        have := h2 j d h
        rwa [show n + 1 + j = n + (j + 1) by omega] at this
    · intro h
      refine ⟨h 0 a rfl, fun j d hd => ?_⟩
      have := h (j + 1) d hd
      rwa [show n + (j + 1) = n + 1 + j by omega] at this
theorem Fine.comp {k : Int} {kss : List (List Int)} (f : Fine k kss) (h1 : 1 ≤ kss.length) (h2 : kss.length ≤ 40) : compOk k (tabP kss) = true := by
  unfold tabP
  show ((decide (1 ≤ (kss.map rowP).length) && decide ((kss.map rowP).length ≤ 40)) && rowsOk k 0 (kss.map rowP)) = true
  rw [List.length_map, decide_eq_true h1, decide_eq_true h2, (rows_get 0).mpr]
  · rfl
  · intro j d hd
    rw [List.getElem?_map] at hd
    cases e : kss[j]? with
    | none =>
      rw [e] at hd
      cases hd
    | some ks =>
      rw [e] at hd
      cases hd
      obtain ⟨a, b⟩ := f j ks e
      show (decide (((ks.map PyData.int).length : Int) = ((0 + j : Nat) : Int)) && (ks.map PyData.int).all (below k)) = true
      rw [List.length_map, decide_eq_true (by omega), List.all_map]
      refine List.all_eq_true.mpr fun z hz => ?_
      obtain ⟨z0, z1⟩ := b z hz
      show (decide (0 ≤ z) && decide (z < k)) = true
      rw [decide_eq_true z0, decide_eq_true z1]
      rfl
def nums (l : List Nat) : List Int := l.map fun (j : Nat) => (j : Int)
theorem natV_nums (l : List Nat) : natV l = (nums l).map V.int := by
  unfold natV nums
  rw [List.map_map]
  rfl
def rLstL (K : PySem.W.Frag) : List V → Hp → VK → Prop := fun xs H Q => ∃ p ys, xs = [.ref p] ∧ SqL K H p ys ∧ ∀ l, H l = none → Q (.ref l) (upd H l (.lst ys))
theorem call_lstL {X : Cx} : CallR X (.type "list") (rLstL X.K) := fun pins s σ H xs us Q I r ⟨p, ys, e, a, b⟩ => call_list_of pins s σ H xs us Q I r ⟨p, ys, e, .inl a, b⟩
def cplTo (n : Nat) : Nat → List (Nat × Nat)
  | 0 => []
  | m + 1 => cplTo n m ++ (List.range (n - (m + 1))).map fun j => (m, m + 1 + j)
theorem cpl_mem (n : Nat) : ∀ (m : Nat) (a b : Nat), (a, b) ∈ cplTo n m ↔ a < m ∧ a < b ∧ b < n
  | 0, a, b => by
    show (a, b) ∈ [] ↔ _
    simp
  | m + 1, a, b => by
    show (a, b) ∈ cplTo n m ++ (List.range (n - (m + 1))).map (fun j => (m, m + 1 + j)) ↔ _
    rw [List.mem_append, cpl_mem n m, List.mem_map]
    constructor
    · rintro (h | ⟨j, hj, e⟩)
      · omega
      · cases e
        have := List.mem_range.mp hj
        omega
    · intro h
      by_cases c : a < m
      · exact .inl (by omega)
      · refine .inr ⟨b - (m + 1), List.mem_range.mpr (by omega), ?_⟩
        have h1 : m = a := by omega
        have h2 : m + 1 + (b - (m + 1)) = b := by omega
        rw [h2, h1]
theorem cpl_len (n : Nat) : ∀ m, (cplTo n m).length ≤ m * n
  | 0 => Nat.zero_le _
  | m + 1 => by
    show (cplTo n m ++ (List.range (n - (m + 1))).map fun j => (m, m + 1 + j)).length ≤ _
    rw [List.length_append, List.length_map, List.length_range, Nat.succ_mul]
    have := cpl_len n m
    omega
structure Cpls (H0 H : Hp) (a : Addr) (ts : List (Addr × Nat × Nat)) : Prop where
  top : H a = some (.lst (ts.map fun t => V.ref t.1))
  row : ∀ t ∈ ts, H t.1 = some (.tup [.int (t.2.1 : Nat), .int (t.2.2 : Nat)])
  new : ∀ t ∈ ts, H0 t.1 = none
def alikeB (kss : List (List Int)) (a b : Nat) : Bool := (List.range kss.length).all fun m => m == a || m == b || decide (tieN kss m a = tieN kss m b)
theorem rows_nodup {H : Hp} {rs : List Addr} {kss : List (List Int)} {k : Int} (f : Fine k kss) (l : rs.length = kss.length) (row : ∀ (i : Nat) (r : Addr) (ks : List Int), rs[i]? = some r → kss[i]? = some ks → H r = some (.lst (ks.map V.int))) : rs.Nodup := by
  refine List.pairwise_iff_getElem.mpr fun i j hi hj lt e => ?_
  have h1 := row i _ _ (List.getElem?_eq_getElem hi) (List.getElem?_eq_getElem (by omega : i < kss.length))
  have h2 := row j _ _ (List.getElem?_eq_getElem hj) (List.getElem?_eq_getElem (by omega : j < kss.length))
  rw [e, h2] at h1
  have h3 := congrArg List.length (HO.lst.inj (Option.some.inj h1))
  rw [List.length_map, List.length_map] at h3
  have a := (f i _ (List.getElem?_eq_getElem (by omega : i < kss.length))).1
  have b := (f j _ (List.getElem?_eq_getElem (by omega : j < kss.length))).1
  omega
theorem Tab.made {H : Hp} {c : Addr} {rs : List Addr} {kss : List (List Int)} {k : Int} (f : Fine k kss) (l : rs.length = kss.length) (top : H c = some (.lst (rs.map V.ref))) (row : ∀ (i : Nat) (r : Addr) (ks : List Int), rs[i]? = some r → kss[i]? = some ks → H r = some (.lst (ks.map V.int))) : Tab H c rs kss :=
  ⟨top, l, row, rows_nodup f l row⟩
def fineB (k : Int) (kss : List (List Int)) : Bool := (List.range kss.length).all fun i => decide ((kss.getD i []).length = i) && (kss.getD i []).all fun z => decide (0 ≤ z) && decide (z < k)
theorem fine_of {k : Int} {kss : List (List Int)} (h : fineB k kss = true) : Fine k kss := fun i ks e => by
  have il := (List.getElem?_eq_some_iff.mp e).1
  have := List.all_eq_true.mp h i (List.mem_range.mpr il)
  rw [List.getD_eq_getElem?_getD, e] at this
  show ks.length = i ∧ _
  have t2 : (decide (ks.length = i) && ks.all fun z => decide (0 ≤ z) && decide (z < k)) = true := this
  rw [Bool.and_eq_true] at t2
  refine ⟨of_decide_eq_true t2.1, fun z hz => ?_⟩
  have := List.all_eq_true.mp t2.2 z hz
  rw [Bool.and_eq_true] at this
  exact ⟨of_decide_eq_true this.1, of_decide_eq_true this.2⟩
theorem inV_nat (l : List Nat) (p : Nat) : inV (.int (p : Nat)) (natV l) = decide (p ∈ l) := by
  unfold inV natV
  induction l with
  | nil => rfl
  | cons a l ih =>
    rw [List.map_cons, List.any_cons, ih]
    show (((a : Nat) : Int) == (p : Int) || decide (p ∈ l)) = decide (p ∈ a :: l)
    by_cases h : a = p
    · subst h
      simp
    · have h' : ¬ p = a := fun z => h z.symm
      have h2 : ¬ (a : Int) = (p : Int) := by omega
      simp [h', h2]
theorem flat_nat (l : List Nat) : (natV l).all flatV = true := by
  unfold natV
  rw [List.all_map]
  exact List.all_eq_true.mpr fun _ _ => rfl
def pairT (c : Nat × Nat) : List V := [.int (c.1 : Nat), .int (c.2 : Nat)]
theorem choices_two (n : Nat) : ∀ d m, m + d = n → (cplTo n n).map (fun c => [c.1, c.2]) = (cplTo n m).map (fun c => [c.1, c.2]) ++ Cmb.combs n 2 d m
  | 0, m, h => by
    have : m = n := by omega
    subst this
    rw [Cmb.combs, List.append_nil]
  | d + 1, m, h => by
    rw [choices_two n d (m + 1) (by omega), Cmb.combs]
    have e1 : ∀ d lo, Cmb.combs n 1 d lo = (List.range d).map fun j => [lo + j] := fun d => by
      induction d with
      | zero => intro lo; rw [Cmb.combs]; rfl
      | succ d ih =>
        intro lo
        rw [Cmb.combs, ih (lo + 1), List.range_succ_eq_map, List.map_cons, List.map_map]
        have e0 : Cmb.combs n 0 d (lo + 1) = [[]] := by cases d <;> (rw [Cmb.combs])
        rw [e0]
        show [lo] :: _ = [lo + 0] :: _
        rw [Nat.add_zero]
        congr 1
        exact List.map_congr_left fun j _ => by show [lo + 1 + j] = [lo + (j + 1)]; rw [show lo + 1 + j = lo + (j + 1) by omega]
    show (cplTo n m ++ (List.range (n - (m + 1))).map fun j => (m, m + 1 + j)).map _ ++ _ = _
    rw [List.map_append, List.append_assoc, e1, List.map_map, List.map_map, show n - (m + 1) = d by omega]
    rfl
theorem Cpls.same {H0 H H' : Hp} {a : Addr} {ts : List (Addr × Nat × Nat)} (r : Cpls H0 H a ts) (s : Same H H') : Cpls H0 H' a ts := ⟨s _ _ r.top, fun t ht => s _ _ (r.row t ht), r.new⟩
theorem Cpls.push {H0 H H' : Hp} {D p : Addr} {ts : List (Addr × Nat × Nat)} {c : Nat × Nat} (R : Cpls H0 H D ts) (s : Same H H') (hp : H p = none) (h0 : H0 p = none) (f : H' p = some (.tup (pairT c))) : Cpls H0 (upd H' D (.lst ((ts.map fun t => V.ref t.1) ++ [V.ref p]))) D (ts ++ [(p, c)]) := by
  have Dp : D ≠ p := ne_of_none R.top hp
  refine ⟨?_, ?_, ?_⟩
  · rw [upd_same, List.map_append]
    rfl
  · intro u hu
    rcases List.mem_append.mp hu with hu | hu
    · have h0 := R.row u hu
      have uD : u.1 ≠ D := ne_of h0 R.top (by intro z; cases z)
      rw [upd_ne uD]
      exact s _ _ h0
    · rw [List.mem_singleton] at hu
      subst hu
      show upd H' D _ p = _
      rw [upd_ne Dp.symm]
      exact f
  · intro u hu
    rcases List.mem_append.mp hu with hu | hu
    · exact R.new u hu
    · rw [List.mem_singleton] at hu
      subst hu
      exact h0
theorem Cpls.back {H0 H1 H : Hp} {a : Addr} {ts : List (Addr × Nat × Nat)} (r : Cpls H1 H a ts) (s : Same H0 H1) : Cpls H0 H a ts := ⟨r.top, r.row, fun t ht => s.free (r.new t ht)⟩
theorem Tab.entry {H : Hp} {c : Addr} {rs : List Addr} {kss : List (List Int)} {k : Int} (t : Tab H c rs kss) (fine : Fine k kss) {i j : Nat} (hi : i < j) (hj : j < kss.length) :
    ∃ (r : Addr) (ks : List Int), atI (rs.map V.ref) ((j : Nat) : Int) = some (.ref r) ∧ H r = some (.lst (ks.map V.int)) ∧ atI (ks.map V.int) ((i : Nat) : Int) = some (.int (tieN kss j i)) := by
  obtain ⟨r, ks, a1, a2, a3⟩ := t.at hj
  obtain ⟨lk, _⟩ := fine _ _ a2
  have il : i < ks.length := by omega
  refine ⟨r, ks, atI_nat (by rw [List.getElem?_map, a1]; rfl), a3, atI_nat ?_⟩
  have ez : tieN kss j i = ks[i] := by
    have eA : kss.getD (max j i) [] = ks := by rw [List.getD_eq_getElem?_getD, Nat.max_eq_left (by omega), a2]; rfl
    unfold tieN
    rw [eA, Nat.min_eq_right (by omega), List.getD_eq_getElem?_getD, List.getElem?_eq_getElem il]
    rfl
  rw [List.getElem?_map, List.getElem?_eq_getElem il, ez]
  rfl
theorem cpl_take {f : Nat × Nat → Bool} {l : List (Nat × Nat)} {i : Nat} {c : Nat × Nat} (e : l[i]? = some c) : (l.take (i + 1)).filter f = (l.take i).filter f ++ (if f c then [c] else []) := by
  rw [List.take_add_one, e, List.filter_append]
  congr 1
  show [c].filter f = _
  cases h : f c <;> simp [h]
def Im (mg : Str → Option Value) : Prop := mg "combinations" = some (.type "itertools.combinations")
theorem seq_by {a b : TS} {D : Ends} {σ : L2.St} {H : Hp} (R : L2.St → Hp → Prop) (h1 : ∀ nx : L2.St → Hp → Prop, (∀ σ' H', R σ' H' → nx σ' H') → a { D with nx := nx } σ H) (h2 : ∀ σ' H', R σ' H' → b D σ' H') : tSeq a b D σ H := h1 _ h2
theorem alike_comm (kss : List (List Int)) (a b : Nat) : alikeB kss a b = alikeB kss b a := by
  unfold alikeB
  congr 1
  funext m
  rw [Bool.or_comm (m == a) (m == b)]
  congr 1
  by_cases h : tieN kss m a = tieN kss m b
  · simp [h]
  · have : ¬ tieN kss m b = tieN kss m a := fun z => h z.symm
    simp [h, this]
theorem nat_dt {K : PySem.W.Frag} {H : Hp} {o : Addr} {l : List Nat} (h : H o = some (.lst (natV l))) : Dt K H (.ref o) (rowP (nums l)) := .lst h (by rw [natV_nums]; exact dts_ints _)
theorem nice_tab {k : Int} {kss : List (List Int)} (f : Fine k kss) (hk : k ≤ 9) (l : kss.length ≤ 40) : Nice 3 (tabP kss) := (Nice.list (n := 1) (by rw [List.length_map]; omega) fun e he => by
  obtain ⟨ks, hks, rfl⟩ := List.mem_map.mp he
  obtain ⟨i, hi, e⟩ := List.getElem_of_mem hks
  obtain ⟨a, b⟩ := f i ks (by rw [List.getElem?_eq_getElem hi, e])
  exact Nice.list (by rw [List.length_map]; omega) fun z hz => by
    obtain ⟨x, hx, rfl⟩ := List.mem_map.mp hz
    obtain ⟨x0, x1⟩ := b x hx
    exact Nice.leaf (by show x.natAbs < 2 ^ 100; omega)).up
/-- the six ties of four -/
def sixL (kss : List (List Int)) (l : List Nat) : List Int :=
  [tieN kss (l.getD 0 0) (l.getD 1 0), tieN kss (l.getD 0 0) (l.getD 2 0), tieN kss (l.getD 0 0) (l.getD 3 0), tieN kss (l.getD 1 0) (l.getD 2 0), tieN kss (l.getD 1 0) (l.getD 3 0), tieN kss (l.getD 2 0) (l.getD 3 0)]
/-- of ab ac ad bc bd cd: no two stand alike -/
def firmB (ab ac ad bc bd cd : Int) : Bool := !((ac == bc && ad == bd) || ((ab == bc && ad == cd) || ((ab == bd && ac == cd) || ((ab == ac && bd == cd) || ((ab == ad && bc == cd) || (ac == ad && bc == bd))))))
def firmL (l : List Int) : Bool := firmB (l.getD 0 0) (l.getD 1 0) (l.getD 2 0) (l.getD 3 0) (l.getD 4 0) (l.getD 5 0)
/-- an expression that is just this bool -/
def Pu (t : TE) (σ : L2.St) (H : Hp) (b : Bool) : Prop := ∀ Q : VK, Q (.bl b) H → t σ H Q
theorem Pu.and {a b : TE} {σ : L2.St} {H : Hp} {x y : Bool} (h1 : Pu a σ H x) (h2 : Pu b σ H y) : Pu (tAndV a b) σ H (x && y) := fun Q q => h1 _ ⟨x, rfl, by
  cases x with
  | true => exact h2 _ q
  | false => exact q⟩
theorem Pu.or {a b : TE} {σ : L2.St} {H : Hp} {x y : Bool} (h1 : Pu a σ H x) (h2 : Pu b σ H y) : Pu (tOrV a b) σ H (x || y) := fun Q q => h1 _ ⟨x, rfl, by
  cases x with
  | true => exact q
  | false => exact h2 _ q⟩
theorem Pu.not {a : TE} {σ : L2.St} {H : Hp} {x : Bool} (h1 : Pu a σ H x) : Pu (tNotV a) σ H (!x) := fun Q q => h1 _ ⟨x, rfl, q⟩
theorem Pu.eq {i j : Nat} {σ : L2.St} {H : Hp} {x y : Int} (h1 : σ[i]? = some (some (.int x))) (h2 : σ[j]? = some (some (.int y))) : Pu (tOp rEq (tVar i) (tVar j)) σ H (x == y) := fun Q q => ⟨_, h1, _, h2, rfl, by rw [dec_int]; exact q⟩
def spSix : Sp := fun vs H Q _ => ∃ (m T : Addr) (ps : List Addr) (kss : List (List Int)) (a b c d : Nat), vs = [.ref m, .ref T] ∧ Mat H m ps kss.length (tieV kss) ∧ H T = some (.tup (Cmb.natT [a, b, c, d])) ∧ a < b ∧ b < c ∧ c < d ∧ d < kss.length ∧
  ∀ p, H p = none → Q (.ref p) (upd H p (.lst ((sixL kss [a, b, c, d]).map V.int)))
def spFirm : Sp := fun vs H Q _ => ∃ (p : Addr) (ab ac ad bc bd cd : Int), vs = [.ref p] ∧ H p = some (.lst ([ab, ac, ad, bc, bd, cd].map V.int)) ∧ Q (.bl (firmB ab ac ad bc bd cd)) H
theorem combs_up (n : Nat) : ∀ r d lo, lo + d = n → ∀ l ∈ Cmb.combs n r d lo, l.Pairwise (· < ·)
  | 0, d, lo, _, l, h => by
    cases d <;> (rw [Cmb.combs] at h; rw [List.mem_singleton] at h; rw [h]; exact List.Pairwise.nil)
  | r + 1, 0, lo, _, l, h => by
    rw [Cmb.combs] at h
    cases h
  | r + 1, d + 1, lo, e, l, h => by
    rw [Cmb.combs, List.mem_append, List.mem_map] at h
    rcases h with ⟨t, ht, rfl⟩ | h
    · exact List.pairwise_cons.mpr ⟨fun j hj => by
        have := Cmb.combs_low n r d (lo + 1) (by omega) t ht j hj
        omega, combs_up n r d (lo + 1) (by omega) t ht⟩
    · exact combs_up n (r + 1) d (lo + 1) (by omega) l h
theorem combs_many (n : Nat) : ∀ r d lo, (Cmb.combs n r d lo).length ≤ (d + 1) ^ r
  | 0, d, lo => by
    cases d <;> (rw [Cmb.combs]; exact Nat.le_refl _)
  | r + 1, 0, lo => by
    rw [Cmb.combs]
    exact Nat.zero_le _
  | r + 1, d + 1, lo => by
    rw [Cmb.combs, List.length_append, List.length_map]
    have h1 := combs_many n r d (lo + 1)
    have h2 := combs_many n (r + 1) d (lo + 1)
    rw [Nat.pow_succ] at h2 ⊢
    have h3 : (d + 1) ^ r ≤ (d + 1 + 1) ^ r := Nat.pow_le_pow_left (Nat.le_succ _) r
    have h4 : (d + 1) ^ r + (d + 1) ^ r * (d + 1) = (d + 1) ^ r * (d + 1 + 1) := by
      generalize (d + 1) ^ r = x
      generalize d + 1 = y
      rw [Nat.mul_add_one, Nat.add_comm]
    have h5 : (d + 1) ^ r * (d + 1 + 1) ≤ (d + 1 + 1) ^ r * (d + 1 + 1) := Nat.mul_le_mul_right _ h3
    omega
theorem four_of {n : Nat} {l : List Nat} (h : l ∈ Cmb.choices n 4) : ∃ a b c d, l = [a, b, c, d] ∧ a < b ∧ b < c ∧ c < d ∧ d < n := by
  have h1 := Cmb.choices_len h
  have h2 := combs_up n 4 n 0 (Nat.zero_add n) l h
  have h3 := Cmb.choices_low h
  match l, h1 with
  | [a, b, c, d], _ =>
    refine ⟨a, b, c, d, rfl, ?_, ?_, ?_, h3 d (by simp)⟩
    all_goals simp at h2
    all_goals omega
abbrev FourT := Addr × Addr × Addr × List Nat
structure Frs (f : List Nat → List Int) (H0 H : Hp) (a : Addr) (ts : List FourT) : Prop where
  top : H a = some (.lst (ts.map fun t => V.ref t.1))
  row : ∀ t ∈ ts, H t.1 = some (.tup [.ref t.2.1, .ref t.2.2.1]) ∧ H t.2.1 = some (.lst (natV t.2.2.2)) ∧ H t.2.2.1 = some (.lst ((f t.2.2.2).map V.int))
  new : ∀ t ∈ ts, H0 t.1 = none ∧ H0 t.2.1 = none ∧ H0 t.2.2.1 = none
  sep : ∀ t ∈ ts, a ≠ t.1 ∧ a ≠ t.2.1 ∧ a ≠ t.2.2.1
theorem Frs.same {f : List Nat → List Int} {H0 H H' : Hp} {a : Addr} {ts : List FourT} (r : Frs f H0 H a ts) (s : Same H H') : Frs f H0 H' a ts := ⟨s _ _ r.top, fun t ht => ⟨s _ _ (r.row t ht).1, s _ _ (r.row t ht).2.1, s _ _ (r.row t ht).2.2⟩, r.new, r.sep⟩
theorem Frs.back {f : List Nat → List Int} {H0 H1 H : Hp} {a : Addr} {ts : List FourT} (r : Frs f H1 H a ts) (s : Same H0 H1) : Frs f H0 H a ts := ⟨r.top, r.row, fun t ht => ⟨s.free (r.new t ht).1, s.free (r.new t ht).2.1, s.free (r.new t ht).2.2⟩, r.sep⟩
theorem Frs.push {f : List Nat → List Int} {H0 H H' : Hp} {D t o s : Addr} {l : List Nat} {ts : List FourT} (R : Frs f H0 H D ts) (sm : Same H H') (dt : D ≠ t) (dO : D ≠ o) (ds : D ≠ s) (n0 : H0 t = none ∧ H0 o = none ∧ H0 s = none)
    (h1 : H' t = some (.tup [.ref o, .ref s])) (h2 : H' o = some (.lst (natV l))) (h3 : H' s = some (.lst ((f l).map V.int))) :
    Frs f H0 (upd H' D (.lst ((ts.map fun t => V.ref t.1) ++ [V.ref t]))) D (ts ++ [(t, o, s, l)]) := by
  refine ⟨?_, ?_, ?_, ?_⟩
  · rw [upd_same, List.map_append]
    rfl
  · intro u hu
    rcases List.mem_append.mp hu with hu | hu
    · obtain ⟨a1, a2, a3⟩ := R.row u hu
      obtain ⟨e1, e2, e3⟩ := R.sep u hu
      rw [upd_ne e1.symm, upd_ne e2.symm, upd_ne e3.symm]
      exact ⟨sm _ _ a1, sm _ _ a2, sm _ _ a3⟩
    · rw [List.mem_singleton] at hu
      subst hu
      show upd H' D _ t = _ ∧ upd H' D _ o = _ ∧ upd H' D _ s = _
      rw [upd_ne dt.symm, upd_ne dO.symm, upd_ne ds.symm]
      exact ⟨h1, h2, h3⟩
  · intro u hu
    rcases List.mem_append.mp hu with hu | hu
    · exact R.new u hu
    · rw [List.mem_singleton] at hu
      subst hu
      exact n0
  · intro u hu
    rcases List.mem_append.mp hu with hu | hu
    · exact R.sep u hu
    · rw [List.mem_singleton] at hu
      subst hu
      exact ⟨dt, dO, ds⟩
/-- the lists of the fours are all unlike -/
def cells (ts : List FourT) : List Addr := ts.flatMap fun t => [t.2.1, t.2.2.1]
theorem cells_mem {ts : List FourT} {x : Addr} : x ∈ cells ts ↔ ∃ t ∈ ts, x = t.2.1 ∨ x = t.2.2.1 := by
  unfold cells
  rw [List.mem_flatMap]
  constructor
  · rintro ⟨t, ht, h⟩
    exact ⟨t, ht, by simpa using h⟩
  · rintro ⟨t, ht, h⟩
    exact ⟨t, ht, by simpa using h⟩
theorem cells_push {f : List Nat → List Int} {H0 H : Hp} {D t o s : Addr} {l : List Nat} {ts : List FourT} (R : Frs f H0 H D ts) (nd : (cells ts).Nodup) (ho : H o = none) (hs : H s = none) (os : o ≠ s) : (cells (ts ++ [(t, o, s, l)])).Nodup := by
  have e : cells (ts ++ [(t, o, s, l)]) = cells ts ++ [o, s] := by
    unfold cells
    rw [List.flatMap_append]
    rfl
  have out : ∀ x ∈ cells ts, ∃ v, H x = some v := fun x hx => by
    obtain ⟨u, hu, z⟩ := cells_mem.mp hx
    obtain ⟨a1, a2, a3⟩ := R.row u hu
    rcases z with rfl | rfl
    · exact ⟨_, a2⟩
    · exact ⟨_, a3⟩
  rw [e, List.nodup_append]
  refine ⟨nd, by simp [os], fun a ha b hb z => ?_⟩
  subst z
  obtain ⟨v, hv⟩ := out a ha
  rcases List.mem_cons.mp hb with rfl | hb
  · rw [ho] at hv
    cases hv
  · rw [List.mem_singleton] at hb
    subst hb
    rw [hs] at hv
    cases hv
def rLstT (K : PySem.W.Frag) : List V → Hp → VK → Prop := fun xs H Q => ∃ p ys, xs = [.ref p] ∧ SqT K H p ys ∧ ∀ l, H l = none → Q (.ref l) (upd H l (.lst ys))
theorem call_lstT {X : Cx} : CallR X (.type "list") (rLstT X.K) := fun pins s σ H xs us Q I r ⟨p, ys, e, a, b⟩ => call_list_of pins s σ H xs us Q I r ⟨p, ys, e, .inr a, b⟩
theorem sub_flat {α β : Type} {l m : List α} (h : l.Sublist m) (f : α → List β) : (l.flatMap f).Sublist (m.flatMap f) := by
  induction h with
  | slnil => exact List.Sublist.refl _
  | cons a _ ih =>
    rw [List.flatMap_cons]
    exact ih.trans (List.sublist_append_right _ _)
  | cons_cons a _ ih =>
    rw [List.flatMap_cons, List.flatMap_cons]
    exact (List.Sublist.refl _).append ih
def firmK (kss : List (List Int)) : List (List Nat) := (Cmb.choices kss.length 4).filter fun l => firmL (sixL kss l)
def spFirmIn : Sp := fun vs H Q _ => ∃ (m : Addr) (ps : List Addr) (kss : List (List Int)), vs = [.ref m] ∧ Mat H m ps kss.length (tieV kss) ∧ kss.length ≤ 14 ∧
  ∀ (p : Addr) (ts : List FourT) (H' : Hp), Same H H' → H p = none → Frs (sixL kss) H H' p ts → (cells ts).Nodup → ts.map (·.2.2.2) = firmK kss → Q (.ref p) H'
def spFours : Sp := fun vs H Q _ => ∃ (k : Int) (c : Addr) (rs : List Addr) (kss : List (List Int)), vs = [.int k, .ref c] ∧ 2 ≤ k ∧ k ≤ 9 ∧ Tab H c rs kss ∧ Fine k kss ∧ 1 ≤ kss.length ∧ kss.length ≤ 14 ∧
  ∀ (p : Addr) (ts : List FourT) (H' : Hp), Same H H' → H p = none → Frs (sixL kss) H H' p ts → (cells ts).Nodup → ts.map (·.2.2.2) = firmK kss → Q (.ref p) H'
end
end GL

namespace GL
open PySem PySem.Spec PyProof.Rows L2
theorem hid_upd {H : Hp} {f : Addr} {o : HO} : hid (upd H f o) f = hid H f := by
  funext b
  unfold hid
  by_cases h : b = f
  · rw [if_pos h, if_pos h]
  · rw [if_neg h, if_neg h, upd_ne h]
theorem hid_mono {H H' : Hp} {f : Addr} (s : Same H H') : Same (hid H f) (hid H' f) := fun b o e => by
  have n := hid_none e
  rw [hid_ne n] at e ⊢
  exact s b o e
theorem hid_in {H : Hp} {f b : Addr} {o : HO} (e : H b = some o) (n : b ≠ f) : hid H f b = some o := by rw [hid_ne n]; exact e
/-- a test by what it leads to -/
theorem if_by {tc : TT} {t u : TS} {D : Ends} {σ : L2.St} {H : Hp} (R : Bool → Hp → Prop) (h1 : ∀ Q' : Bool → Hp → Prop, (∀ b H', R b H' → Q' b H') → tc σ H Q') (h2 : ∀ H', R true H' → t D σ H') (h3 : ∀ H', R false H' → u D σ H') : tIfS tc t u D σ H :=
  h1 _ fun b H' r => by
    cases b with
    | true => exact iteT (h2 H' r)
    | false => exact iteF (h3 H' r)
section
variable {J : It} {n : Nat} {G : Hp → Prop} {Y : Nat → Hp → V → Hp → Prop}
theorem filt_more (p : Nat → Bool) (f : Nat → V) (n : Nat) : ((List.range (n + 1)).filter p).map f = ((List.range n).filter p).map f ++ (if p n then [f n] else []) := by
  rw [List.range_succ, List.filter_append, List.map_append]
  congr 1
  cases h : p n <;> simp [h]
/-- a comprehension of plain values, some kept -/
theorem lc_keep (w : Walk J n G Y) {g : TG} {tt : TT} {te : TE} {vs : List Nat} {σ : L2.St} {H1 : Hp} {D : Addr} {Qd : Hp → Prop} (p : Nat → Bool) (f : Nat → V) (hD : H1 D = none) (hn : n ≤ sizeLine)
    (hG : ∀ H', Same H1 H' → G H')
    (hs : ∀ (i : Nat) (x : V) (H2 H3 : Hp) (N : V → Hp → Prop) (M : Hp → Prop), i < n → Same H1 H2 → Y i H2 x H3 → (∀ H4, p i = true → Same H2 H4 → N (f i) H4) → (∀ H4, p i = false → Same H2 H4 → M H4) →
      g x (wipe σ vs) H3 fun σ2 H4 => wipe σ2 vs = wipe σ vs ∧ tt σ2 H4 fun b H5 => if b = true then te σ2 H5 N else M H5)
    (hd : ∀ H', Same H1 H' → H' D = some (.lst (((List.range n).filter p).map f)) → Qd H') :
    ∃ W : Nat → Nat → Hp → Prop, (∃ m, W 0 m (upd H1 D (.lst []))) ∧ ∀ i m H, W i m H →
      (J.stop i H ∧ Qd H) ∨ (J.go i H ∧ ∃ Nx : Hp → Prop, (∀ H', Nx H' → ∃ m', m' < m ∧ W (i + 1) m' H') ∧ ∀ x H', J.yld i H x H' → g x (wipe σ vs) H' fun σ2 H2 => wipe σ2 vs = wipe σ vs ∧ tt σ2 H2 fun b H3 =>
        if b = true then te σ2 H3 fun y H4 => ∃ acc, H4 D = some (.lst acc) ∧ acc.length < sizeLine ∧ Nx (upd H4 D (.lst (acc ++ [y]))) else Nx H3) := by
  refine lc_it w (fun i H' => Same H1 H' ∧ H' D = some (.lst (((List.range i).filter p).map f))) ⟨same_new hD, upd_same⟩ (fun i H' _ z => hG H' z.1) ?_ fun H' z => hd H' z.1 z.2
  rintro i x H2 H3 hi ⟨s, e⟩ y
  refine hs i x H2 H3 _ _ hi s y (fun H4 k s4 => ?_) (fun H4 k s4 => ?_)
  · refine ⟨_, s4 _ _ e, ?_, fun b o e' => ?_, ?_⟩
    · rw [List.length_map]
      have := List.length_filter_le p (List.range i)
      rw [List.length_range] at this
      omega
    · rw [upd_ne (ne_of_none e' hD)]
      exact s4 _ _ (s _ _ e')
    · rw [upd_same, filt_more, k, if_pos rfl]
  · refine ⟨s.trans s4, ?_⟩
    rw [filt_more, k, if_neg (by decide), List.append_nil]
    exact s4 _ _ e
theorem filt_all {f : Nat → V} {n : Nat} : ((List.range n).filter fun _ => true).map f = (List.range n).map f := by
  rw [List.filter_eq_self.mpr fun _ _ => rfl]
/-- a comprehension of plain values -/
theorem lc_vals (w : Walk J n G Y) {g : TG} {te : TE} {vs : List Nat} {σ : L2.St} {H1 : Hp} {D : Addr} {Qd : Hp → Prop} (f : Nat → V) (hD : H1 D = none) (hn : n ≤ sizeLine)
    (hG : ∀ H', Same H1 H' → G H')
    (hs : ∀ (i : Nat) (x : V) (H2 H3 : Hp) (N : V → Hp → Prop), i < n → Same H1 H2 → Y i H2 x H3 → (∀ H4, Same H2 H4 → N (f i) H4) →
      g x (wipe σ vs) H3 fun σ2 H4 => wipe σ2 vs = wipe σ vs ∧ te σ2 H4 N)
    (hd : ∀ H', Same H1 H' → H' D = some (.lst ((List.range n).map f)) → Qd H') :
    ∃ W : Nat → Nat → Hp → Prop, (∃ m, W 0 m (upd H1 D (.lst []))) ∧ ∀ i m H, W i m H →
      (J.stop i H ∧ Qd H) ∨ (J.go i H ∧ ∃ Nx : Hp → Prop, (∀ H', Nx H' → ∃ m', m' < m ∧ W (i + 1) m' H') ∧ ∀ x H', J.yld i H x H' → g x (wipe σ vs) H' fun σ2 H2 => wipe σ2 vs = wipe σ vs ∧ tYes σ2 H2 fun b H3 =>
        if b = true then te σ2 H3 fun y H4 => ∃ acc, H4 D = some (.lst acc) ∧ acc.length < sizeLine ∧ Nx (upd H4 D (.lst (acc ++ [y]))) else Nx H3) := by
  refine lc_it w (fun i H' => Same H1 H' ∧ H' D = some (.lst ((List.range i).map f))) ⟨same_new hD, upd_same⟩ (fun i H' _ z => hG H' z.1) ?_ fun H' z => hd H' z.1 z.2
  rintro i x H2 H3 hi ⟨s, e⟩ y
  refine hs i x H2 H3 _ hi s y (fun H4 s4 => ?_)
  refine ⟨_, s4 _ _ e, ?_, fun b o e' => ?_, ?_⟩
  · rw [List.length_map, List.length_range]
    omega
  · rw [upd_ne (ne_of_none e' hD)]
    exact s4 _ _ (s _ _ e')
  · rw [upd_same, List.range_succ, List.map_append]
    rfl
end
end GL

namespace GL
open PySem PySem.Spec PyProof.Rows L2
section
variable {J : It} {n : Nat} {G : Hp → Prop} {Y : Nat → Hp → V → Hp → Prop}
/-- lists at rs, in a list at D, all new -/
structure Objs (H0 H : Hp) (D : Addr) (rs : List Addr) (n : Nat) (o : Nat → HO) : Prop where
  top : H D = some (.lst (rs.map V.ref))
  len : rs.length = n
  row : ∀ (i : Nat) (r : Addr), rs[i]? = some r → H r = some (o i)
  nd : rs.Nodup
  out : D ∉ rs
  new : ∀ r ∈ rs, H0 r = none
theorem Objs.same {H0 H H' : Hp} {D : Addr} {rs : List Addr} {n : Nat} {o : Nat → HO} (r : Objs H0 H D rs n o) (s : Same H H') : Objs H0 H' D rs n o := ⟨s _ _ r.top, r.len, fun i a h => s _ _ (r.row i a h), r.nd, r.out, r.new⟩
/-- a comprehension of new objects -/
theorem lc_objs (w : Walk J n G Y) {g : TG} {te : TE} {vs : List Nat} {σ : L2.St} {H1 : Hp} {D : Addr} {Qd : Hp → Prop} (o : Nat → HO) (hD : H1 D = none) (hn : n ≤ sizeLine)
    (hG : ∀ H', Same H1 H' → G H')
    (hs : ∀ (i : Nat) (x : V) (H2 H3 : Hp) (N : V → Hp → Prop), i < n → Same H1 H2 → Y i H2 x H3 → (∀ H4 r, Same H2 H4 → H2 r = none → H4 r = some (o i) → N (.ref r) H4) →
      g x (wipe σ vs) H3 fun σ2 H4 => wipe σ2 vs = wipe σ vs ∧ te σ2 H4 N)
    (hd : ∀ H' rs, Same H1 H' → Objs H1 H' D rs n o → Qd H') :
    ∃ W : Nat → Nat → Hp → Prop, (∃ m, W 0 m (upd H1 D (.lst []))) ∧ ∀ i m H, W i m H →
      (J.stop i H ∧ Qd H) ∨ (J.go i H ∧ ∃ Nx : Hp → Prop, (∀ H', Nx H' → ∃ m', m' < m ∧ W (i + 1) m' H') ∧ ∀ x H', J.yld i H x H' → g x (wipe σ vs) H' fun σ2 H2 => wipe σ2 vs = wipe σ vs ∧ tYes σ2 H2 fun b H3 =>
        if b = true then te σ2 H3 fun y H4 => ∃ acc, H4 D = some (.lst acc) ∧ acc.length < sizeLine ∧ Nx (upd H4 D (.lst (acc ++ [y]))) else Nx H3) := by
  refine lc_it w (fun i H' => Same H1 H' ∧ ∃ rs, Objs H1 H' D rs i o) ⟨same_new hD, [], upd_same, rfl, fun i r h => by simp at h, List.nodup_nil, by simp, by simp⟩ (fun i H' _ z => hG H' z.1) ?_ fun H' ⟨a, rs, b⟩ => hd H' rs a b
  rintro i x H2 H3 hi ⟨s, rs, e⟩ y
  refine hs i x H2 H3 _ hi s y (fun H4 r s4 nr hr => ?_)
  have rD : D ≠ r := ne_of_none e.top nr
  have nin : r ∉ rs := fun z => by
    obtain ⟨j, hj⟩ := List.getElem?_of_mem z
    have := e.row j r hj
    rw [nr] at this
    cases this
  refine ⟨_, s4 _ _ e.top, ?_, fun b o' e' => ?_, rs ++ [r], ?_, ?_, ?_, ?_, ?_, ?_⟩
  · rw [List.length_map, e.len]
    omega
  · rw [upd_ne (ne_of_none e' hD)]
    exact s4 _ _ (s _ _ e')
  · rw [upd_same, List.map_append]
    rfl
  · rw [List.length_append, e.len]
    rfl
  · intro j a hj
    by_cases c : j < rs.length
    · rw [List.getElem?_append_left c] at hj
      have ne : a ≠ D := fun z => e.out (by rw [← z]; exact List.mem_of_getElem? hj)
      rw [upd_ne ne]
      exact s4 _ _ (e.row j a hj)
    · rw [List.getElem?_append_right (by omega)] at hj
      have j0 : j - rs.length = 0 := by
        have := (List.getElem?_eq_some_iff.mp hj).1
        simp at this
        omega
      rw [j0] at hj
      cases hj
      have ji : j = i := by
        have := e.len
        omega
      subst ji
      rw [upd_ne rD.symm]
      exact hr
  · rw [List.nodup_append]
    refine ⟨e.nd, by simp, fun a ha b hb => ?_⟩
    rw [List.mem_singleton] at hb
    subst hb
    exact fun z => nin (by rw [← z]; exact ha)
  · rw [List.mem_append, List.mem_singleton]
    rintro (z | z)
    · exact e.out z
    · exact rD z
  · intro a ha
    rcases List.mem_append.mp ha with ha | ha
    · exact e.new a ha
    · rw [List.mem_singleton] at ha
      subst ha
      exact s.free nr
theorem Objs.tab {H0 H : Hp} {D : Addr} {rs : List Addr} {n : Nat} {kss : List (List Int)} (r : Objs H0 H D rs n fun i => .lst ((kss.getD i []).map V.int)) (hn : kss.length = n) : Tab H D rs kss :=
  ⟨r.top, r.len.trans hn.symm, fun i a ks h1 h2 => by
    have := r.row i a h1
    rw [List.getD_eq_getElem?_getD, h2] at this
    exact this, r.nd⟩
end
section
variable {X : Cx}
/-- xs == [] -/
def rEqNil (K : PySem.W.Frag) : R2 := fun x y H Q => ∃ a b xs, x = .ref a ∧ y = .ref b ∧ SqL K H a xs ∧ SqL K H b [] ∧ Q (.bl xs.isEmpty) H
theorem op_eqNil (hu : X.A.units + 64 < cLine) : OpR X (compareOp .Eq) (rEqNil X.K) := by
  intro pins s σ H x y v u Q I rx ry h
  obtain ⟨a, b, xs, rfl, rfl, ha, hb, q⟩ := h
  cases rx
  cases ry
  obtain ⟨is, ra, pa, _⟩ := I.list ha
  obtain ⟨js, rb, pb, _⟩ := I.list hb
  cases rb
  cases xs with
  | nil =>
    cases ra
    exact (SeqAt.RcAt.lists (e := fun _ => true) pa.isList pb.isList rfl (by omega) (fun j h1 => absurd h1 (by simp))) _ _ _ _ ⟨.bl _, H, I, rfl, q⟩
  | cons z zs =>
    cases ra with
    | cons r1 r2 => exact (SeqAt.RcAt.lists_lengths pa.isList pb.isList (by simp) (by omega)) _ _ _ _ ⟨.bl _, H, I, rfl, q⟩
end
end GL

namespace GL
open PySem PySem.Spec PyProof.Rows L2
section
variable {P : Program} {w : World} {K : PySem.W.Frag} {mg : Str → Option Value} {base : Heap}
/-- a lot of so many people -/
structure Lot (n : Nat) (l : List Nat) : Prop where
  some : l ≠ []
  up : l.Pairwise (· < ·)
  low : ∀ p ∈ l, p < n
theorem up_len {n : Nat} : ∀ (l : List Nat) (m : Nat), l.Pairwise (· < ·) → (∀ p ∈ l, m ≤ p ∧ p < n) → l.length ≤ n - m
  | [], _, _, _ => Nat.zero_le _
  | a :: t, m, h, b => by
    obtain ⟨h1, h2⟩ := List.pairwise_cons.mp h
    have ba := b a (List.mem_cons_self ..)
    have ih := up_len t (a + 1) h2 fun p hp => ⟨h1 p hp, (b p (List.mem_cons_of_mem _ hp)).2⟩
    rw [List.length_cons]
    omega
theorem Lot.len {n : Nat} {l : List Nat} (h : Lot n l) : 1 ≤ l.length ∧ l.length ≤ n := by
  have := up_len l 0 h.up fun p hp => ⟨Nat.zero_le _, h.low p hp⟩
  have := List.length_pos_iff.mpr h.some
  omega
theorem trues_more (i : Nat) : (List.replicate (i + 1) true).map V.bl = (List.replicate i true).map V.bl ++ [V.bl true] := by
  rw [List.replicate_succ', List.map_append]
  rfl
theorem trues_all (n : Nat) : (List.replicate n true).all id = true := by
  induction n with
  | zero => rfl
  | succ n ih =>
    rw [List.replicate_succ, List.all_cons, ih]
    rfl
def spLot (K : PySem.W.Frag) : Sp := fun vs H Q _ => ∃ (n : Nat) (o : Addr) (l : List Nat), vs = [.int n, .ref o] ∧ n ≤ 100 ∧ H o = some (.lst (natV l)) ∧ Lot n l ∧ ∀ H', Same H H' → Q (.bl true) H'
def spCheckL : Sp := fun vs H Q _ => ∃ (c o : Addr) (xs : List V) (l : List Nat), vs = [.ref c, .ref o] ∧ H c = some (.lst xs) ∧ xs.length ≤ 100 ∧ H o = some (.lst (natV l)) ∧ Lot xs.length l ∧ ∀ H', Same H H' → Q .non H'
structure CoN (H0 H : Hp) (k : Int) (c : Addr) (n : Nat) : Prop where
  ex : ∃ rs kss, Tab H c rs kss ∧ kss.length = n ∧ Fine k kss ∧ c ∉ rs ∧ H0 c = none ∧ ∀ r ∈ rs, H0 r = none
theorem CoN.back {H0 H1 H : Hp} {k : Int} {c : Addr} {n : Nat} (h : CoN H1 H k c n) (f : ∀ a, H1 a = none → H0 a = none) : CoN H0 H k c n := by
  obtain ⟨rs, kss, t, l, fi, nc, n1, n2⟩ := h.ex
  exact ⟨rs, kss, t, l, fi, nc, f _ n1, fun r hr => f _ (n2 r hr)⟩
theorem nums_inj {l m : List Nat} (h : nums l = nums m) : l = m := by
  induction l generalizing m with
  | nil =>
    cases m with
    | nil => rfl
    | cons b m => cases h
  | cons a l ih =>
    cases m with
    | nil => cases h
    | cons b m =>
      obtain ⟨h1, h2⟩ := List.cons.inj h
      rw [ih h2, Int.ofNat.inj h1]
theorem nodup_le : ∀ {m l : List Nat}, m.Nodup → (∀ z ∈ m, z ∈ l) → m.length ≤ l.length
  | [], _, _, _ => Nat.zero_le _
  | a :: m, l, h, s => by
    obtain ⟨h1, h2⟩ := List.nodup_cons.mp h
    have hl := s a (List.mem_cons_self ..)
    have := nodup_le (l := l.erase a) h2 fun z hz => (List.mem_erase_of_ne fun e => h1 (by rw [← e]; exact hz)).mpr (s z (List.mem_cons_of_mem _ hz))
    rw [List.length_erase_of_mem hl] at this
    have := List.length_pos_of_mem hl
    rw [List.length_cons]
    omega
theorem nums_map (l : List Nat) : (nums l).map Int.toNat = l := by
  unfold nums
  rw [List.map_map]
  exact List.map_id'' (fun x => Int.toNat_natCast x) l
theorem nodup_up {l : List Nat} (h : l.Pairwise (· < ·)) : l.Nodup := h.imp fun x => Nat.ne_of_lt x
theorem lay_tab (kss : List (List Int)) : PyData.canLay0 (tabP kss) = true := by
  unfold tabP
  simp only [PyData.canLay0]
  exact lay_rows kss
theorem Tab.dp {K : PySem.W.Frag} {H : Hp} {c : Addr} {rs : List Addr} {kss : List (List Int)} (t : Tab H c rs kss) : Dp K H (.ref c) (tabP kss) := .lst (SqL.of t.top) (dpAll_rows t.len fun i r ks a b => SqL.of (t.row i r ks a b))
theorem nat_dp {K : PySem.W.Frag} {H : Hp} {o : Addr} {l : List Nat} (h : H o = some (.lst (natV l))) : Dp K H (.ref o) (rowP (nums l)) := dp_row (SqL.of (by rw [← natV_nums]; exact h))
theorem find_none {n : Nat} {f : Nat → Bool} (h : ∀ p, p < n → f p = false) : (List.range n).find? f = none := List.find?_eq_none.mpr fun p hp => by
  rw [h p (List.mem_range.mp hp)]
  decide
theorem find_some {n m : Nat} {f : Nat → Bool} (hm : m < n) (h : ∀ p, p < m → f p = false) (hf : f m = true) : (List.range n).find? f = some m := by
  rw [List.find?_range_eq_some]
  exact ⟨hf, List.mem_range.mpr hm, fun j hj => by rw [h j hj]; rfl⟩
theorem kit_tup {K : PySem.W.Frag} : PySem.W.kitOne K (.type "tuple") (.type "tuple") = some true := kit_ty (show kitB "tuple" "tuple" = some true by decide +kernel)
theorem choices_pairs (n : Nat) : Cmb.choices n 2 = (cplTo n n).map fun c => [c.1, c.2] := by
  rw [choices_two n n 0 (Nat.zero_add n)]
  rfl
def spCouple : Sp := fun vs H Q _ => ∃ (n : Nat) (t : Addr) (c : Nat × Nat), vs = [.int n, .ref t] ∧ H t = some (.tup (pairT c)) ∧ c.1 < c.2 ∧ c.2 < n ∧ Q (.bl true) H
def spCheckCp : Sp := fun vs H Q _ => ∃ (c t : Addr) (xs : List V) (p : Nat × Nat), vs = [.ref c, .ref t] ∧ H c = some (.lst xs) ∧ H t = some (.tup (pairT p)) ∧ p.1 < p.2 ∧ p.2 < xs.length ∧ Q .non H
def spOrderB : Sp := fun vs H Q _ => ∃ (n : Nat) (o : Addr) (os : List Nat), vs = [.int n, .ref o] ∧ n ≤ 100 ∧ H o = some (.lst (natV os)) ∧ os.Perm (List.range n) ∧ ∀ H', Same H H' → Q (.bl true) H'
theorem trues_moreB (i : Nat) : (List.replicate (i + 1) true).map V.bl = (List.replicate i true).map V.bl ++ [V.bl true] := trues_more i
def spCheckCs : Sp := fun vs H Q _ => ∃ (k : Int) (c d : Addr) (rs ps : List Addr) (kss lss : List (List Int)), vs = [.int k, .ref c, .ref d] ∧ 2 ≤ k ∧ k ≤ 9 ∧ Tab H c rs kss ∧ Tab H d ps lss ∧ Fine k kss ∧ Fine k lss ∧ 1 ≤ kss.length ∧ kss.length ≤ 40 ∧ lss.length = kss.length ∧ ∀ H', Same H H' → Q .non H'
def spAreAlike : Sp := fun vs H Q _ => ∃ (m : Addr) (ps : List Addr) (kss : List (List Int)) (a b : Nat), vs = [.ref m, .int a, .int b] ∧ Mat H m ps kss.length (tieV kss) ∧ kss.length ≤ 100 ∧ a < kss.length ∧ b < kss.length ∧ a ≠ b ∧ ∀ H', Same H H' → Q (.bl (alikeB kss a b)) H'
theorem tyV_ne {kss : List (List Int)} {i a b : Nat} (ha : i ≠ a) (hb : i ≠ b) : decide (tieV kss i a = tieV kss i b) = decide (tieN kss i a = tieN kss i b) := by
  unfold tieV
  rw [if_neg ha, if_neg hb]
  by_cases c : tieN kss i a = tieN kss i b
  · simp [c]
  · simp [c]
theorem ty_scal (kss : List (List Int)) (i a b : Nat) : scal (tieV kss i a) (tieV kss i b) = true := by
  unfold tieV
  by_cases h1 : i = a
  · by_cases h2 : i = b
    · rw [if_pos h1, if_pos h2]; rfl
    · rw [if_pos h1, if_neg h2]; rfl
  · by_cases h2 : i = b
    · rw [if_neg h1, if_pos h2]; rfl
    · rw [if_neg h1, if_neg h2]; rfl
/-- the company of the people at os -/
def rowN (kss : List (List Int)) (os : List Nat) (i : Nat) : List Int := (List.range i).map fun j => tieN kss (os.getD i 0) (os.getD j 0)
def namedK (kss : List (List Int)) (os : List Nat) : List (List Int) := (List.range os.length).map (rowN kss os)
theorem named_len (kss : List (List Int)) (os : List Nat) : (namedK kss os).length = os.length := by
  unfold namedK
  rw [List.length_map, List.length_range]
theorem named_fine {k : Int} {kss : List (List Int)} {os : List Nat} (f : Fine k kss) (nd : os.Nodup) (bd : ∀ j ∈ os, j < kss.length) : Fine k (namedK kss os) := fun i ks e => by
  unfold namedK at e
  rw [List.getElem?_map] at e
  cases h : (List.range os.length)[i]? with
  | none =>
    rw [h] at e
    cases e
  | some x =>
    obtain ⟨hi, hx⟩ := List.getElem?_eq_some_iff.mp h
    rw [List.getElem_range] at hx
    subst hx
    rw [List.length_range] at hi
    rw [h] at e
    cases e
    unfold rowN
    refine ⟨by rw [List.length_map, List.length_range], fun z hz => ?_⟩
    obtain ⟨j, hj, rfl⟩ := List.mem_map.mp hz
    have hji := List.mem_range.mp hj
    have hjl : j < os.length := by omega
    have gi : os.getD i 0 = os[i] := by rw [List.getD_eq_getElem?_getD, List.getElem?_eq_getElem hi]; rfl
    have gj : os.getD j 0 = os[j] := by rw [List.getD_eq_getElem?_getD, List.getElem?_eq_getElem hjl]; rfl
    rw [gi, gj]
    refine tieN_in f (bd _ (List.getElem_mem _)) (bd _ (List.getElem_mem _)) fun z => ?_
    have := (List.getElem_inj nd).mp z
    omega
theorem tie_named {kss : List (List Int)} {os : List Nat} {i j : Nat} (hi : i < os.length) (hj : j < os.length) (ne : i ≠ j) : tieN (namedK kss os) i j = tieN kss (os.getD i 0) (os.getD j 0) := by
  have base : ∀ {a b : Nat}, a < os.length → b < a → tieN (namedK kss os) a b = tieN kss (os.getD a 0) (os.getD b 0) := fun {a b} ha hb => by
    have e1 : (namedK kss os).getD (max a b) [] = rowN kss os a := by
      unfold namedK
      rw [Nat.max_eq_left (by omega), List.getD_eq_getElem?_getD, List.getElem?_map, List.getElem?_range ha]
      rfl
    conv => lhs; unfold tieN
    rw [e1, Nat.min_eq_right (by omega)]
    unfold rowN
    rw [List.getD_eq_getElem?_getD, List.getElem?_map, List.getElem?_range hb]
    rfl
  rcases Nat.lt_or_ge j i with h | h
  · exact base hi h
  · rw [tieN_comm, base hj (by omega), tieN_comm]
def spCplAlike : Sp := fun vs H Q _ => ∃ (m : Addr) (ps : List Addr) (kss : List (List Int)), vs = [.ref m] ∧ Mat H m ps kss.length (tieV kss) ∧ kss.length ≤ 100 ∧
  ∀ (p : Addr) (ts : List (Addr × Nat × Nat)) (H' : Hp), Same H H' → H p = none → Cpls H H' p ts → ts.map (·.2) = (cplTo kss.length kss.length).filter (fun c => alikeB kss c.1 c.2) → Q (.ref p) H'
def spUnlikeC : Sp := fun vs H Q _ => ∃ (c d : Addr) (rs ps : List Addr) (kss lss : List (List Int)) (k : Int), vs = [.ref c, .ref d] ∧ Tab H c rs kss ∧ Tab H d ps lss ∧ Fine k kss ∧ Fine k lss ∧ kss.length ≤ 100 ∧ lss.length = kss.length ∧
  ∀ (p : Addr) (ts : List (Addr × Nat × Nat)) (H' : Hp), Same H H' → H p = none → Cpls H H' p ts → ts.map (·.2) = (cplTo kss.length kss.length).filter (fun c => !decide (tieN kss c.2 c.1 = tieN lss c.2 c.1)) → Q (.ref p) H'
def spAmongC : Sp := fun vs H Q _ => ∃ (c o : Addr) (rs : List Addr) (kss : List (List Int)) (k : Int) (l : List Nat), vs = [.ref c, .ref o] ∧ Tab H c rs kss ∧ Fine k kss ∧ kss.length ≤ 100 ∧ H o = some (.lst (natV l)) ∧ Lot kss.length l ∧
  ∀ (p : Addr) (ps : List Addr) (H' : Hp), Same H H' → Tab H' p ps (namedK kss l) → p ∉ ps → H p = none → (∀ r ∈ ps, H r = none) → Q (.ref p) H'
/-- what a function of a company and a couple is handed -/
structure AskC (H : Hp) (vs : List V) (kss : List (List Int)) (p : Nat × Nat) : Prop where
  ex : ∃ (k : Int) (c t : Addr) (rs : List Addr), vs = [.int k, .ref c, .ref t] ∧ 2 ≤ k ∧ k ≤ 9 ∧ Tab H c rs kss ∧ Fine k kss ∧ H t = some (.tup (pairT p))
  one : 1 ≤ kss.length
  most : kss.length ≤ 40
  lt : p.1 < p.2
  low : p.2 < kss.length
def spTieP : Sp := fun vs H Q _ => ∃ (kss : List (List Int)) (p : Nat × Nat), AskC H vs kss p ∧ ∀ H', Same H H' → Q (.int (tieN kss p.2 p.1)) H'
def spStand : Sp := fun vs H Q _ => ∃ (kss : List (List Int)) (p : Nat × Nat), AskC H vs kss p ∧ ∀ H', Same H H' → Q (.bl (alikeB kss p.1 p.2)) H'
def spAlikes : Sp := fun vs H Q _ => ∃ (k : Int) (c : Addr) (rs : List Addr) (kss : List (List Int)), vs = [.int k, .ref c] ∧ 2 ≤ k ∧ k ≤ 9 ∧ Tab H c rs kss ∧ Fine k kss ∧ 1 ≤ kss.length ∧ kss.length ≤ 40 ∧
  ∀ (p : Addr) (ts : List (Addr × Nat × Nat)) (H' : Hp), Same H H' → H p = none → Cpls H H' p ts → ts.map (·.2) = (cplTo kss.length kss.length).filter (fun c => alikeB kss c.1 c.2) → Q (.ref p) H'
def spAmong : Sp := fun vs H Q _ => ∃ (k : Int) (c o : Addr) (rs : List Addr) (kss : List (List Int)) (l : List Nat), vs = [.int k, .ref c, .ref o] ∧ 2 ≤ k ∧ k ≤ 9 ∧ Tab H c rs kss ∧ Fine k kss ∧ 1 ≤ kss.length ∧ kss.length ≤ 40 ∧ H o = some (.lst (natV l)) ∧ Lot kss.length l ∧
  ∀ (p : Addr) (ps : List Addr) (H' : Hp), Same H H' → Tab H' p ps (namedK kss l) → p ∉ ps → H p = none → (∀ r ∈ ps, H r = none) → Q (.ref p) H'
def spDiffer : Sp := fun vs H Q _ => ∃ (k : Int) (c d : Addr) (rs ps : List Addr) (kss lss : List (List Int)), vs = [.int k, .ref c, .ref d] ∧ 2 ≤ k ∧ k ≤ 9 ∧ Tab H c rs kss ∧ Tab H d ps lss ∧ Fine k kss ∧ Fine k lss ∧ 1 ≤ kss.length ∧ kss.length ≤ 40 ∧ lss.length = kss.length ∧
  ∀ (p : Addr) (ts : List (Addr × Nat × Nat)) (H' : Hp), Same H H' → H p = none → Cpls H H' p ts → ts.map (·.2) = (cplTo kss.length kss.length).filter (fun c => !decide (tieN kss c.2 c.1 = tieN lss c.2 c.1)) → Q (.ref p) H'
def spRenamed : Sp := fun vs H Q _ => ∃ (k : Int) (c o : Addr) (rs : List Addr) (kss : List (List Int)) (os : List Nat), vs = [.int k, .ref c, .ref o] ∧ 2 ≤ k ∧ k ≤ 9 ∧ Tab H c rs kss ∧ Fine k kss ∧ 1 ≤ kss.length ∧ kss.length ≤ 40 ∧ H o = some (.lst (natV os)) ∧ os.Perm (List.range kss.length) ∧
  ∀ (p : Addr) (ps : List Addr) (H' : Hp), Same H H' → Tab H' p ps (namedK kss os) → p ∉ ps → H p = none → (∀ r ∈ ps, H r = none) → Q (.ref p) H'
def CI (H : Hp) (g f : Addr) (k : Int) (m n i : Nat) (σ : L2.St) (H' : Hp) : Prop := ∃ (pv wv ov kv rv : Option V), σ = [some (.ref g), some (.int k), some (.int m), pv, some (.ref f), wv, ov, kv, rv, none] ∧ But g H H' ∧ Gen H' g (n + 19000 - 15 * i) ∧
  ∃ rs kss, Tab H' f rs kss ∧ kss.length = i + 1 ∧ Fine k kss ∧ f ∉ rs ∧ H f = none ∧ ∀ r ∈ rs, H r = none
theorem CI.next {H H' H3 : Hp} {g f p : Addr} {k : Int} {m n i nn n' : Nat} {rs : List Addr} {kss : List (List Int)} {ks : List Int} {pv wv ov kv rv : Option V} (G0 : Gen H g nn) (bt : But g H H') (G' : Gen H' g n') (t : Tab H' f rs kss) (lk : kss.length = i + 1) (fine : Fine k kss) (nf : f ∉ rs)
    (hf : H f = none) (nR : ∀ r ∈ rs, H r = none) (b3 : But g H' H3) (G3 : Gen H3 g (n + 19000 - 15 * (i + 1))) (hp : H' p = none) (h3 : H3 p = some (.lst (ks.map V.int))) (lks : ks.length = i + 1) (bk : ∀ z ∈ ks, 0 ≤ z ∧ z < k) :
    H3 f = some (.lst (rs.map V.ref)) ∧ CI H g f k m n (i + 1) [some (.ref g), some (.int k), some (.int m), pv, some (.ref f), wv, ov, kv, rv, none] (upd H3 f (.lst (rs.map V.ref ++ [V.ref p]))) := by
  have gf : g ≠ f := G0.ne hf
  have gr : g ∉ rs := notin_new G0 nR
  obtain ⟨t2, n2⟩ := t.push nf (H4 := H3) (fun r hr o e => b3 r o e (fun z => gr (by rw [← z]; exact hr))) hp h3
  refine ⟨b3 _ _ t.top gf.symm, pv, wv, ov, kv, rv, rfl, ?_, G3.other gf.symm, _, _, t2, by rw [List.length_append, lk]; rfl, fine.push (by omega) bk, n2, hf, ?_⟩
  · intro b o e nb
    rw [upd_ne (ne_of_none e hf)]
    exact b3 b o (bt b o e nb) nb
  · intro r hr
    rcases List.mem_append.mp hr with hr | hr
    · exact nR r hr
    · rw [List.mem_singleton] at hr
      subst hr
      exact but_free bt G' hp
def spYes : Sp := fun vs H Q _ => ∃ b : Bool, vs = [.bl b, .bl b] ∧ Q (.bl true) H
def spAlike2 : Sp := fun vs H Q _ => ∃ (c : Addr) (rs : List Addr) (kss : List (List Int)) (k : Int) (a b : Nat), vs = [.ref c, .int a, .int b] ∧ Tab H c rs kss ∧ Fine k kss ∧ kss.length ≤ 100 ∧ a < kss.length ∧ b < kss.length ∧ Q (.bl (alikeB kss a b)) H
def spCouples : Sp := fun vs H Q _ => ∃ n : Nat, vs = [.int n] ∧ n ≤ 100 ∧ ∀ (p : Addr) (ts : List (Addr × Nat × Nat)) (H' : Hp), Same H H' → H p = none → Cpls H H' p ts → ts.map (·.2) = cplTo n n → Q (.ref p) H'
def spNamed : Sp := fun vs H Q _ => ∃ (c o : Addr) (rs : List Addr) (kss : List (List Int)) (k : Int) (os : List Nat), vs = [.ref c, .ref o] ∧ Tab H c rs kss ∧ Fine k kss ∧ H o = some (.lst (natV os)) ∧ os.Nodup ∧ (∀ j ∈ os, j < kss.length) ∧ os.length ≤ 100 ∧
  ∀ (p : Addr) (ps : List Addr) (H' : Hp), Same H H' → Tab H' p ps (namedK kss os) → p ∉ ps → H p = none → (∀ r ∈ ps, H r = none) → Q (.ref p) H'
def spOrder : Sp := fun vs H Q _ => ∃ (g : Addr) (m n : Nat), vs = [.ref g, .int m] ∧ m ≤ 60 ∧ Gen H g (n + 5 * m) ∧
  ∀ (o : Addr) (H' : Hp) (os : List Nat), But g H H' → H o = none → Gen H' g n → H' o = some (.lst (natV os)) → os.Perm (List.range m) → Q (.ref o) H'
def spCompany : Sp := fun vs H Q _ => ∃ (g : Addr) (k : Int) (m n : Nat), vs = [.ref g, .int k, .int m] ∧ 2 ≤ k ∧ k ≤ 9 ∧ 1 ≤ m ∧ m ≤ 50 ∧ Gen H g (n + 20000) ∧ ∀ (p : Addr) (H' : Hp), But g H H' → Gen H' g n → CoN H H' k p m → Q (.ref p) H'
def cT (c : Nat × Nat) : PyData := .tuple [.int (c.1 : Nat), .int (c.2 : Nat)]
def cplP (cs : List (Nat × Nat)) : PyData := .list (cs.map cT)
theorem eqv_cT (c d : Nat × Nat) : PyData.eqv (cT c) (cT d) = decide (c = d) := by
  obtain ⟨a, b⟩ := c
  obtain ⟨x, y⟩ := d
  unfold cT
  simp only [PyData.eqv, PyData.eqvAll]
  by_cases h1 : a = x
  · subst h1
    by_cases h2 : b = y
    · subst h2
      simp
    · simp [h2]
      omega
  · simp [h1]
    omega
theorem eqv_cs : ∀ xs ys : List (Nat × Nat), PyData.eqvAll (xs.map cT) (ys.map cT) = decide (xs = ys)
  | [], [] => by simp [PyData.eqvAll]
  | [], y :: ys => by simp [PyData.eqvAll]
  | x :: xs, [] => by simp [PyData.eqvAll]
  | x :: xs, y :: ys => by
    simp only [List.map_cons, PyData.eqvAll]
    rw [eqv_cs xs ys, eqv_cT]
    by_cases h1 : x = y
    · subst h1
      simp
    · simp [h1]
theorem eqv_cpl (xs ys : List (Nat × Nat)) : PyData.eqv (cplP xs) (cplP ys) = decide (xs = ys) := by
  unfold cplP
  simp only [PyData.eqv]
  exact eqv_cs xs ys
theorem lay_cT (c : Nat × Nat) : PyData.canLay0 (cT c) = true := by
  unfold cT
  simp only [PyData.canLay0, PyData.canLayAll0]
  rfl
theorem lay_cs : ∀ xs : List (Nat × Nat), PyData.canLayAll0 (xs.map cT) = true
  | [] => by simp [PyData.canLayAll0]
  | x :: xs => by
    simp only [List.map_cons, PyData.canLayAll0]
    rw [lay_cs xs, lay_cT]
    rfl
theorem depth_cT (c : Nat × Nat) : (cT c).depth ≤ 1 := by
  unfold cT
  simp only [PyData.depth, PyData.depthAll]
  omega
theorem shaped_cT (c : Nat × Nat) : SeqAt.shaped (cT c) = true := by
  unfold SeqAt.shaped
  rw [lay_cT, decide_eq_true (Nat.le_trans (depth_cT c) (by decide))]
  rfl
theorem shaped_cpl (xs : List (Nat × Nat)) : SeqAt.shaped (cplP xs) = true := by
  have d : (cplP xs).depth ≤ 2 := by
    unfold cplP
    simp only [PyData.depth]
    have := depthAll_of (n := 1) (ds := xs.map cT) fun e he => by
      obtain ⟨x, _, rfl⟩ := List.mem_map.mp he
      exact depth_cT x
    omega
  unfold SeqAt.shaped
  rw [decide_eq_true (Nat.le_trans d (by decide))]
  unfold cplP
  simp only [PyData.canLay0]
  rw [lay_cs]
  rfl
theorem any_cpl (xs : List (Nat × Nat)) (y : Nat × Nat) : ((xs.map cT).any fun z => PyData.eqv z (cT y)) = decide (y ∈ xs) := by
  induction xs with
  | nil => simp
  | cons x xs ih =>
    rw [List.map_cons, List.any_cons, ih, eqv_cT]
    by_cases h : x = y
    · subst h
      simp
    · have h' : y ≠ x := fun z => h z.symm
      simp [h, h']
theorem dp_pair {K : PySem.W.Frag} {H : Hp} {t : Addr} {c : Nat × Nat} (h : H t = some (.tup (pairT c))) : Dp K H (.ref t) (cT c) := .tup (SqT.of h) (.cons (.int _) (.cons (.int _) .nil))
theorem dp_cpl {K : PySem.W.Frag} {H : Hp} {a : Addr} {ts : List (Addr × Nat × Nat)} (h : H a = some (.lst (ts.map fun t => V.ref t.1))) (r : ∀ t ∈ ts, H t.1 = some (.tup (pairT t.2))) : Dp K H (.ref a) (cplP (ts.map (·.2))) := by
  have : cplP (ts.map (·.2)) = .list ((ts.map (·.2)).map cT) := rfl
  rw [this]
  refine .lst (SqL.of h) ?_
  have g : ∀ us : List (Addr × Nat × Nat), (∀ t ∈ us, H t.1 = some (.tup (pairT t.2))) → DpAll K H (us.map fun t => V.ref t.1) ((us.map (·.2)).map cT) := fun us => by
    induction us with
    | nil => exact fun _ => .nil
    | cons u us ih => exact fun h => .cons (dp_pair (h u (List.mem_cons_self ..))) (ih fun t ht => h t (List.mem_cons_of_mem _ ht))
  exact g ts r
theorem Cpls.dp {K : PySem.W.Frag} {H0 H : Hp} {a : Addr} {ts : List (Addr × Nat × Nat)} (R : Cpls H0 H a ts) : Dp K H (.ref a) (cplP (ts.map (·.2))) := dp_cpl R.top R.row
theorem alike_named {kss : List (List Int)} {os : List Nat} (nd : os.Nodup) (bd : ∀ j ∈ os, j < kss.length) {i j : Nat} (hi : i < os.length) (hj : j < os.length) (ne : i ≠ j) (h : alikeB kss os[i] os[j] = true) : alikeB (namedK kss os) i j = true := by
  unfold alikeB
  refine List.all_eq_true.mpr fun m hm => ?_
  have ml : m < os.length := by
    have := List.mem_range.mp hm
    rw [named_len] at this
    exact this
  have gd : ∀ {x : Nat} (hx : x < os.length), os.getD x 0 = os[x] := fun {x} hx => by rw [List.getD_eq_getElem?_getD, List.getElem?_eq_getElem hx]; rfl
  by_cases c1 : m = i
  · subst c1
    simp
  · by_cases c2 : m = j
    · subst c2
      simp
    · rw [tie_named ml hi c1, tie_named ml hj c2, gd ml, gd hi, gd hj]
      have := List.all_eq_true.mp h os[m] (List.mem_range.mpr (bd _ (List.getElem_mem _)))
      have n1 : ¬ os[m] = os[i] := fun z => c1 ((List.getElem_inj nd).mp z)
      have n2 : ¬ os[m] = os[j] := fun z => c2 ((List.getElem_inj nd).mp z)
      have e1 : (os[m] == os[i]) = false := by simpa using n1
      have e2 : (os[m] == os[j]) = false := by simpa using n2
      rw [e1, e2] at this
      have t3 : tieN kss os[m] os[i] = tieN kss os[m] os[j] := by simpa using this
      rw [t3]
      simp
/-- the place of one in a list without repeats -/
theorem place_of {os : List Nat} {a : Nat} (h : a ∈ os) : ∃ i, ∃ hi : i < os.length, os[i] = a := by
  obtain ⟨i, hi, e⟩ := List.getElem_of_mem h
  exact ⟨i, hi, e⟩
theorem first_place {os : List Nat} (nd : os.Nodup) {i : Nat} (hi : i < os.length) : ∃ z, ((nums os).map PyData.int)[i]? = some z ∧ PyData.eqv z (.int (os[i] : Nat)) = true ∧ ∀ (m : Nat) (z' : PyData), m < i → ((nums os).map PyData.int)[m]? = some z' → PyData.eqv z' (.int (os[i] : Nat)) = false := by
  refine ⟨.int (os[i] : Nat), ?_, by simp [PyData.eqv], fun m z' hm e => ?_⟩
  · unfold nums
    rw [List.getElem?_map, List.getElem?_map, List.getElem?_eq_getElem hi]
    rfl
  · have ml : m < os.length := by omega
    unfold nums at e
    rw [List.getElem?_map, List.getElem?_map, List.getElem?_eq_getElem ml] at e
    cases e
    have : ¬ os[m] = os[i] := fun z => by
      have := (List.getElem_inj nd).mp z
      omega
    have t : ¬ ((os[m] : Nat) : Int) = (os[i] : Nat) := by omega
    simp [PyData.eqv, t]
def gK : List Value → List Value → List Value
  | [], [l, c, k] => [k, c, l]
  | _, _ => []
def gKV : List V → List V → List V
  | [], [l, c, k] => [k, c, l]
  | _, _ => []
theorem gK_rel {vs : List V} {us : List Value} {zs : List V} {ws : List Value} (a : Vals vs us) (b : Vals zs ws) : Vals (gKV vs zs) (gK us ws) := by
  cases a with
  | cons _ _ => exact .nil
  | nil =>
    cases b with
    | nil => exact .nil
    | cons r1 b =>
      cases b with
      | nil => exact .nil
      | cons r2 b =>
        cases b with
        | nil => exact .nil
        | cons r3 b =>
          cases b with
          | nil => exact .cons r3 (.cons r2 (.cons r1 .nil))
          | cons _ _ => exact .nil
def gK2 : List Value → List Value → List Value
  | [], [c, k] => [k, c]
  | _, _ => []
def gKV2 : List V → List V → List V
  | [], [c, k] => [k, c]
  | _, _ => []
theorem gK2_rel {vs : List V} {us : List Value} {zs : List V} {ws : List Value} (a : Vals vs us) (b : Vals zs ws) : Vals (gKV2 vs zs) (gK2 us ws) := by
  cases a with
  | cons _ _ => exact .nil
  | nil =>
    cases b with
    | nil => exact .nil
    | cons r1 b =>
      cases b with
      | nil => exact .nil
      | cons r2 b =>
        cases b with
        | nil => exact .cons r2 (.cons r1 .nil)
        | cons _ _ => exact .nil
/-- a def of the program, called by the names of its arguments -/
def UseK (P : Program) (w : World) (K : PySem.W.Frag) (mg : Str → Option Value) (base : Heap) (x : Str) (ps ks : List Str) (g : List Value → List Value → List Value) (gV : List V → List V → List V) (sp : Sp) (k : Nat) : Prop := ∃ f fd, FnOk P w K mg base CX0 k f fd ps sp ∧ mg x = some (.ref f) ∧ PySem.W.keepIn K (.ref f) = true ∧ KBinds K fd ps ks g gV
/-- two tables, as data -/
def twoP (kss lss : List (List Int)) : PyData := .list [tabP kss, tabP lss]
theorem lay_two (kss lss : List (List Int)) : PyData.canLay0 (twoP kss lss) = true := by
  unfold twoP
  simp only [PyData.canLay0, PyData.canLayAll0]
  rw [lay_tab, lay_tab]
  rfl
theorem shaped_two (kss lss : List (List Int)) : SeqAt.shaped (twoP kss lss) = true := by
  have d : (twoP kss lss).depth ≤ 3 := by
    unfold twoP
    simp only [PyData.depth, PyData.depthAll]
    have := depth_rows kss
    have := depth_rows lss
    omega
  unfold SeqAt.shaped
  rw [lay_two, decide_eq_true (Nat.le_trans d (by decide))]
  rfl
theorem eqv_two (kss lss : List (List Int)) : PyData.eqv (twoP kss lss) (twoP kss lss) = true := SeqAt.eqv_refl _ (lay_two kss lss)
/-- two rows, as data -/
def rows2 (l m : List Nat) : PyData := .list [rowP (nums l), rowP (nums m)]
theorem nice_row {l : List Nat} (h : l.length ≤ 50) (b : ∀ j ∈ l, j < 100) : Nice 1 (rowP (nums l)) := Nice.list (by unfold nums; rw [List.length_map, List.length_map]; exact h) fun e he => by
  unfold nums at he
  rw [List.map_map] at he
  obtain ⟨j, hj, rfl⟩ := List.mem_map.mp he
  have := b j hj
  exact Nice.leaf (by show ((j : Nat) : Int).natAbs < 2 ^ 100; omega)
theorem pair_sorted {i j : Nat} {ns : List Int} (ne : i ≠ j) (pm : ns.Perm (nums [i, j])) (so : ns.Pairwise (· ≤ ·)) : ∃ x y : Nat, ns = nums [x, y] ∧ x < y ∧ ((x = i ∧ y = j) ∨ (x = j ∧ y = i)) := by
  by_cases h : i < j
  · refine ⟨i, j, ?_, h, .inl ⟨rfl, rfl⟩⟩
    refine PySem.W.os_sorted_one pm so ?_
    unfold nums
    exact List.pairwise_cons.mpr ⟨fun z hz => by rw [List.mem_map] at hz; obtain ⟨w, hw, rfl⟩ := hz; rw [List.mem_singleton] at hw; show ((_ : Nat) : Int) ≤ ((w : Nat) : Int); omega, List.pairwise_singleton ..⟩
  · refine ⟨j, i, ?_, by omega, .inr ⟨rfl, rfl⟩⟩
    refine PySem.W.os_sorted_one (pm.trans (List.Perm.swap ..)) so ?_
    unfold nums
    exact List.pairwise_cons.mpr ⟨fun z hz => by rw [List.mem_map] at hz; obtain ⟨w, hw, rfl⟩ := hz; rw [List.mem_singleton] at hw; show ((_ : Nat) : Int) ≤ ((w : Nat) : Int); omega, List.pairwise_singleton ..⟩
def spLists : Sp := fun vs H Q _ => ∃ (g c : Addr) (k : Int) (rs : List Addr) (kss : List (List Int)) (n : Nat), vs = [.ref g, .int k, .ref c] ∧ 2 ≤ k ∧ k ≤ 9 ∧ Gen H g (n + 1000) ∧ Tab H c rs kss ∧ Fine k kss ∧ 1 ≤ kss.length ∧ kss.length ≤ 40 ∧ c ≠ g ∧ g ∉ rs ∧ ∀ H', But g H H' → Q (.bl true) H'
abbrev KCO : List Str := ["kinds", "company", "order"]
abbrev KCL : List Str := ["kinds", "company", "lot"]
abbrev KCC : List Str := ["kinds", "company", "couple"]
theorem neNil_of {cs : List (Nat × Nat)} {f : Nat × Nat → Bool} (h : ∀ c ∈ cs, f c = false) : cs.filter f = [] := List.filter_eq_nil_iff.mpr fun c hc => by rw [h c hc]; decide
def spRight : Sp := fun vs H Q _ => ∃ (g : Addr) (n : Nat), vs = [.ref g] ∧ Gen H g (n + 60000) ∧ ∀ H', But g H H' → Q (.bl true) H'
abbrev KOO : List Str := ["kinds", "one", "other"]
end
end GL

/-! Deeds on companies of numbers. -/
namespace GL
open PySem PySem.Spec PyProof.Rows L2
/-- the tie of a and b (a below b) put to v -/
def setT (kss : List (List Int)) (b a : Nat) (v : Int) : List (List Int) := kss.set b ((kss.getD b []).set a v)
theorem setT_len (kss : List (List Int)) (b a : Nat) (v : Int) : (setT kss b a v).length = kss.length := List.length_set ..
theorem getD_set {α : Type} (l : List α) (i j : Nat) (x d : α) : (l.set i x).getD j d = if i = j ∧ j < l.length then x else l.getD j d := by
  rw [List.getD_eq_getElem?_getD, List.getElem?_set]
  by_cases h : i = j
  · subst h
    by_cases hl : i < l.length
    · rw [if_pos rfl, if_pos hl, if_pos ⟨rfl, hl⟩]
      rfl
    · rw [if_pos rfl, if_neg hl, if_neg (fun z => hl z.2), List.getD_eq_getElem?_getD, List.getElem?_eq_none (by omega)]
  · rw [if_neg h, if_neg (fun z => h z.1), List.getD_eq_getElem?_getD]
theorem Fine.row_len {k : Int} {kss : List (List Int)} (f : Fine k kss) {i : Nat} (hi : i < kss.length) : (kss.getD i []).length = i := by
  have := (f i _ (List.getElem?_eq_getElem hi)).1
  rw [List.getD_eq_getElem?_getD, List.getElem?_eq_getElem hi]
  exact this
theorem tie_setT {k : Int} {kss : List (List Int)} (f : Fine k kss) {a b : Nat} (ab : a < b) (hb : b < kss.length) (v : Int) (i j : Nat) : tieN (setT kss b a v) i j = if max i j = b ∧ min i j = a then v else tieN kss i j := by
  unfold tieN setT
  rw [getD_set]
  by_cases h : b = max i j ∧ max i j < kss.length
  · rw [if_pos h, getD_set, f.row_len hb]
    by_cases h2 : a = min i j ∧ min i j < b
    · rw [if_pos h2, if_pos ⟨h.1.symm, h2.1.symm⟩]
    · rw [if_neg h2, h.1, if_neg (by omega)]
  · rw [if_neg h, if_neg (by omega)]
theorem setT_fine {k : Int} {kss : List (List Int)} (f : Fine k kss) {a b : Nat} (hb : b < kss.length) {v : Int} (v0 : 0 ≤ v) (vk : v < k) : Fine k (setT kss b a v) := by
  intro i ks e
  unfold setT at e
  rw [List.getElem?_set] at e
  by_cases h : b = i
  · subst h
    rw [if_pos rfl, if_pos hb] at e
    cases e
    rw [List.length_set]
    refine ⟨f.row_len hb, fun z hz => ?_⟩
    rcases List.mem_or_eq_of_mem_set hz with h | h
    · refine (f b _ (List.getElem?_eq_getElem hb)).2 z ?_
      rw [List.getD_eq_getElem?_getD, List.getElem?_eq_getElem hb] at h
      exact h
    · subst h
      exact ⟨v0, vk⟩
  · rw [if_neg h] at e
    exact f i ks e
/-- one deed -/
def Step (k : Int) (kss kss' : List (List Int)) : Prop := ∃ (a b : Nat) (v : Int), a < b ∧ b < kss.length ∧ alikeB kss a b = true ∧ 0 ≤ v ∧ v < k ∧ kss' = setT kss b a v
theorem Step.fine {k : Int} {kss kss' : List (List Int)} (s : Step k kss kss') (f : Fine k kss) : Fine k kss' := by
  obtain ⟨a, b, v, ab, hb, _, v0, vk, rfl⟩ := s
  exact setT_fine f hb v0 vk
theorem Step.len {k : Int} {kss kss' : List (List Int)} (s : Step k kss kss') : kss'.length = kss.length := by
  obtain ⟨a, b, v, ab, hb, _, v0, vk, rfl⟩ := s
  exact setT_len ..
/-- a row of deeds -/
inductive Led (k : Int) (kss : List (List Int)) : List (List Int) → Prop
  | refl : Led k kss kss
  | step {ls ms : List (List Int)} : Led k kss ls → Step k ls ms → Led k kss ms
theorem Led.fine {k : Int} {kss ls : List (List Int)} (l : Led k kss ls) (f : Fine k kss) : Fine k ls := by
  induction l with
  | refl => exact f
  | step _ s ih => exact s.fine ih
theorem Led.len {k : Int} {kss ls : List (List Int)} (l : Led k kss ls) : ls.length = kss.length := by
  induction l with
  | refl => rfl
  | step _ s ih => exact s.len.trans ih
theorem Led.trans {k : Int} {kss ls ms : List (List Int)} (l : Led k kss ls) (m : Led k ls ms) : Led k kss ms := by
  induction m with
  | refl => exact l
  | step _ s ih => exact ih.step s
theorem alike_at {kss : List (List Int)} {a b m : Nat} (h : alikeB kss a b = true) (hm : m < kss.length) (ma : m ≠ a) (mb : m ≠ b) : tieN kss m a = tieN kss m b := by
  have := List.all_eq_true.mp h m (List.mem_range.mpr hm)
  have e1 : (m == a) = false := by simpa using ma
  have e2 : (m == b) = false := by simpa using mb
  rw [e1, e2] at this
  simpa using this
theorem alike_of {kss : List (List Int)} {a b : Nat} (h : ∀ m, m < kss.length → m ≠ a → m ≠ b → tieN kss m a = tieN kss m b) : alikeB kss a b = true := by
  unfold alikeB
  refine List.all_eq_true.mpr fun m hm => ?_
  by_cases ma : m = a
  · subst ma
    simp
  · by_cases mb : m = b
    · subst mb
      simp
    · rw [h m (List.mem_range.mp hm) ma mb]
      simp
theorem alike_setT {k : Int} {kss : List (List Int)} (f : Fine k kss) {a b : Nat} (ab : a < b) (hb : b < kss.length) (v : Int) (h : alikeB kss a b = true) : alikeB (setT kss b a v) a b = true := by
  refine alike_of fun m hm ma mb => ?_
  rw [setT_len] at hm
  rw [tie_setT f ab hb, tie_setT f ab hb, if_neg (by omega), if_neg (by omega)]
  exact alike_at h hm ma mb
/-! ### fours -/
theorem firm_false {kss : List (List Int)} {a b p q r s : Nat} (h : alikeB kss a b = true) (hs : s < kss.length) (pq : p < q) (qr : q < r) (rs : r < s) (ma : a ∈ [p, q, r, s]) (mb : b ∈ [p, q, r, s]) (ab : a < b) : firmL (sixL kss [p, q, r, s]) = false := by
  have at' : ∀ m, m < kss.length → m ≠ a → m ≠ b → tieN kss a m = tieN kss b m := fun m h1 h2 h3 => by
    rw [tieN_comm kss a m, tieN_comm kss b m]
    exact alike_at h h1 h2 h3
  have at2 : ∀ m, m < kss.length → m ≠ a → m ≠ b → tieN kss m a = tieN kss m b := fun m h1 h2 h3 => alike_at h h1 h2 h3
  have at3 : ∀ m, m < kss.length → m ≠ a → m ≠ b → tieN kss a m = tieN kss m b := fun m h1 h2 h3 => by rw [tieN_comm kss a m]; exact at2 m h1 h2 h3
  show firmB (tieN kss p q) (tieN kss p r) (tieN kss p s) (tieN kss q r) (tieN kss q s) (tieN kss r s) = false
  unfold firmB
  have ca : a = p ∨ a = q ∨ a = r ∨ a = s := by simpa using ma
  have cb : b = p ∨ b = q ∨ b = r ∨ b = s := by simpa using mb
  rcases ca with rfl | rfl | rfl | rfl <;> rcases cb with rfl | rfl | rfl | rfl <;> first
    | omega
    | (rw [at' _ (by omega : r < kss.length) (by omega) (by omega), at' _ (by omega : s < kss.length) (by omega) (by omega)]; simp; done)
    | (rw [at3 _ (by omega : q < kss.length) (by omega) (by omega), at' _ (by omega : s < kss.length) (by omega) (by omega)]; simp; done)
    | (rw [at3 _ (by omega : q < kss.length) (by omega) (by omega), at3 _ (by omega : r < kss.length) (by omega) (by omega)]; simp; done)
    | (rw [at2 _ (by omega : p < kss.length) (by omega) (by omega), at' _ (by omega : s < kss.length) (by omega) (by omega)]; simp; done)
    | (rw [at2 _ (by omega : p < kss.length) (by omega) (by omega), at3 _ (by omega : r < kss.length) (by omega) (by omega)]; simp; done)
    | (rw [at2 _ (by omega : p < kss.length) (by omega) (by omega), at2 _ (by omega : q < kss.length) (by omega) (by omega)]; simp; done)
/-- the same firm fours, with the same ties -/
def FourSame (kss ls : List (List Int)) : Prop := firmK ls = firmK kss ∧ ∀ l ∈ firmK kss, sixL ls l = sixL kss l
theorem Step.fours {k : Int} {kss ls : List (List Int)} (s : Step k kss ls) (f : Fine k kss) : FourSame kss ls := by
  obtain ⟨a, b, v, ab, hb, al, v0, vk, rfl⟩ := s
  have one : ∀ l ∈ Cmb.choices kss.length 4, firmL (sixL (setT kss b a v) l) = firmL (sixL kss l) ∧ (firmL (sixL kss l) = true → sixL (setT kss b a v) l = sixL kss l) := fun l hl => by
    obtain ⟨p, q, r, s, rfl, pq, qr, rs, sn⟩ := four_of hl
    by_cases h : a ∈ [p, q, r, s] ∧ b ∈ [p, q, r, s]
    · have e1 := firm_false al sn pq qr rs h.1 h.2 ab
      have e2 := firm_false (alike_setT f ab hb v al) (by rw [setT_len]; exact sn) pq qr rs h.1 h.2 ab
      rw [e1, e2]
      exact ⟨rfl, fun z => by cases z⟩
    · have e : ∀ i j, i ∈ [p, q, r, s] → j ∈ [p, q, r, s] → tieN (setT kss b a v) i j = tieN kss i j := fun i j hi hj => by
        rw [tie_setT f ab hb, if_neg]
        rintro ⟨h1, h2⟩
        apply h
        rcases Nat.le_total i j with z | z
        · rw [Nat.max_eq_right z] at h1
          rw [Nat.min_eq_left z] at h2
          subst h1 h2
          exact ⟨hi, hj⟩
        · rw [Nat.max_eq_left z] at h1
          rw [Nat.min_eq_right z] at h2
          subst h1 h2
          exact ⟨hj, hi⟩
      have e6 : sixL (setT kss b a v) [p, q, r, s] = sixL kss [p, q, r, s] := by
        show [_, _, _, _, _, _] = [_, _, _, _, _, _]
        show [tieN _ p q, tieN _ p r, tieN _ p s, tieN _ q r, tieN _ q s, tieN _ r s] = _
        rw [e p q (by simp) (by simp), e p r (by simp) (by simp), e p s (by simp) (by simp), e q r (by simp) (by simp), e q s (by simp) (by simp), e r s (by simp) (by simp)]
        rfl
      rw [e6]
      exact ⟨rfl, fun _ => rfl⟩
  have e : firmK (setT kss b a v) = firmK kss := by
    unfold firmK
    rw [setT_len]
    exact List.filter_congr fun l hl => (one l hl).1
  exact ⟨e, fun l hl => by
    obtain ⟨h1, h2⟩ := List.mem_filter.mp hl
    exact (one l h1).2 h2⟩
theorem FourSame.trans {kss ls ms : List (List Int)} (a : FourSame kss ls) (b : FourSame ls ms) : FourSame kss ms := ⟨b.1.trans a.1, fun l hl => (b.2 l (by rw [a.1]; exact hl)).trans (a.2 l hl)⟩
theorem Led.fours {k : Int} {kss ls : List (List Int)} (l : Led k kss ls) (f : Fine k kss) : FourSame kss ls := by
  induction l with
  | refl => exact ⟨rfl, fun _ _ => rfl⟩
  | step l s ih => exact ih.trans (s.fours (l.fine f))
end GL

namespace GL
open PySem PySem.Spec PyProof.Rows L2
section
variable {J : It} {n : Nat} {G : Hp → Prop} {Y : Nat → Hp → V → Hp → Prop}
/-- a comprehension of drawn numbers -/
theorem lc_draw (w : Walk J n G Y) {g : TG} {te : TE} {vs : List Nat} {σ : L2.St} {H1 : Hp} {D g0 : Addr} {Qd : Hp → Prop} {b c : Nat} {k : Int} (hD : H1 D = none) (Gn : Gen H1 g0 (b + c * n)) (hn : n ≤ sizeLine)
    (hG : ∀ H', But g0 H1 H' → G H')
    (hs : ∀ (i : Nat) (x : V) (H2 H3 : Hp) (N : V → Hp → Prop), i < n → But g0 H1 H2 → Gen H2 g0 (b + c * (n - (i + 1)) + c) → Y i H2 x H3 → (∀ H4 v, But g0 H2 H4 → Gen H4 g0 (b + c * (n - (i + 1))) → 0 ≤ v → v < k → N (.int v) H4) →
      g x (wipe σ vs) H3 fun σ2 H4 => wipe σ2 vs = wipe σ vs ∧ te σ2 H4 N)
    (hd : ∀ H' (ks : List Int), But g0 H1 H' → Gen H' g0 b → H' D = some (.lst (ks.map V.int)) → ks.length = n → (∀ z ∈ ks, 0 ≤ z ∧ z < k) → Qd H') :
    ∃ W : Nat → Nat → Hp → Prop, (∃ m, W 0 m (upd H1 D (.lst []))) ∧ ∀ i m H, W i m H →
      (J.stop i H ∧ Qd H) ∨ (J.go i H ∧ ∃ Nx : Hp → Prop, (∀ H', Nx H' → ∃ m', m' < m ∧ W (i + 1) m' H') ∧ ∀ x H', J.yld i H x H' → g x (wipe σ vs) H' fun σ2 H2 => wipe σ2 vs = wipe σ vs ∧ tYes σ2 H2 fun b H3 =>
        if b = true then te σ2 H3 fun y H4 => ∃ acc, H4 D = some (.lst acc) ∧ acc.length < sizeLine ∧ Nx (upd H4 D (.lst (acc ++ [y]))) else Nx H3) := by
  have gD : D ≠ g0 := (Gn.ne hD).symm
  refine lc_it w (fun i H' => But g0 H1 H' ∧ Gen H' g0 (b + c * (n - i)) ∧ ∃ ks : List Int, H' D = some (.lst (ks.map V.int)) ∧ ks.length = i ∧ ∀ z ∈ ks, 0 ≤ z ∧ z < k)
    ⟨But.new hD, Gn.new hD, [], upd_same, rfl, by simp⟩ (fun i H' _ z => hG H' z.1) ?_ fun H' ⟨a, b, ks, e, l, z⟩ => hd H' ks a (b.less (by omega)) e l z
  rintro i x H2 H3 hi ⟨s, G2, ks, e, l, z⟩ y
  have en : b + c * (n - i) = b + c * (n - (i + 1)) + c := by
    rw [show n - i = (n - (i + 1)) + 1 by omega, Nat.mul_add_one]
    omega
  rw [en] at G2
  refine hs i x H2 H3 _ hi s G2 y (fun H4 v s4 G4 v0 vk => ?_)
  refine ⟨_, s4 _ _ e gD, ?_, fun b o e' nb => ?_, G4.other gD, ks ++ [v], ?_, ?_, ?_⟩
  · rw [List.length_map, l]
    omega
  · rw [upd_ne (ne_of_none e' hD)]
    exact s4 _ _ (s _ _ e' nb) nb
  · rw [upd_same, List.map_append]
    rfl
  · rw [List.length_append, l]
    rfl
  · intro q hq
    rcases List.mem_append.mp hq with hq | hq
    · exact z q hq
    · rw [List.mem_singleton] at hq
      subst hq
      exact ⟨v0, vk⟩
end
theorem walk_nat {n : Nat} : Walk (Itr 0 n) n (fun _ => True) (fun i H x H' => H' = H ∧ x = .int (i : Nat)) := ⟨fun _ _ hi _ => hi, fun _ _ => Nat.le_refl _, fun i _ x _ _ _ y => ⟨y.1, by rw [y.2, Int.zero_add]⟩⟩
theorem walk_from {a n : Nat} : Walk (Itr (a : Nat) n) n (fun _ => True) (fun i H x H' => H' = H ∧ x = .int ((a + i : Nat) : Int)) := ⟨fun _ _ hi _ => hi, fun _ _ => Nat.le_refl _, fun i _ x _ _ _ y => ⟨y.1, by rw [y.2]; congr 1⟩⟩
theorem gName_by {i : Nat} {v : V} {σ : L2.St} {H : Hp} {Q : L2.St → Hp → Prop} (h : Q (σ.set i (some v)) H) : gName i v σ H Q := h
/-- the rows made so far at f, in draws from g -/
def Rowed (H : Hp) (g f : Addr) (k : Int) (b i : Nat) (H' : Hp) : Prop := But g H H' ∧ Gen H' g b ∧ ∃ rs kss, Tab H' f rs kss ∧ kss.length = i ∧ Fine k kss ∧ f ∉ rs ∧ H f = none ∧ ∀ r ∈ rs, H r = none
theorem Rowed.next {H H' H3 : Hp} {g f p : Addr} {k : Int} {b b' i nn : Nat} {ks : List Int} (G0 : Gen H g nn) (r : Rowed H g f k b i H') (b3 : But g H' H3) (G3 : Gen H3 g b') (hp : H' p = none) (h3 : H3 p = some (.lst (ks.map V.int))) (lks : ks.length = i) (bk : ∀ z ∈ ks, 0 ≤ z ∧ z < k) :
    ∃ xs : List V, H3 f = some (.lst xs) ∧ xs.length = i ∧ Rowed H g f k b' (i + 1) (upd H3 f (.lst (xs ++ [V.ref p]))) := by
  obtain ⟨bt, G', rs, kss, t, lk, fine, nf, hf, nR⟩ := r
  have gf : g ≠ f := G0.ne hf
  have gr : g ∉ rs := notin_new G0 nR
  obtain ⟨t2, n2⟩ := t.push nf (H4 := H3) (fun r hr o e => b3 r o e (fun z => gr (by rw [← z]; exact hr))) hp h3
  refine ⟨_, b3 _ _ t.top gf.symm, by rw [List.length_map, t.len, lk], ?_, G3.other gf.symm, _, _, t2, by rw [List.length_append, lk]; rfl, fine.push (by omega) bk, n2, hf, ?_⟩
  · intro b o e nb
    rw [upd_ne (ne_of_none e hf)]
    exact b3 b o (bt b o e nb) nb
  · intro r hr
    rcases List.mem_append.mp hr with hr | hr
    · exact nR r hr
    · rw [List.mem_singleton] at hr
      subst hr
      exact but_free bt G' hp
def spGrown : Sp := fun vs H Q _ => ∃ (g : Addr) (k : Int) (m n : Nat), vs = [.ref g, .int k, .int m] ∧ 2 ≤ k ∧ k ≤ 9 ∧ 1 ≤ m ∧ m ≤ 20 ∧ Gen H g (n + 4000) ∧ ∀ (p : Addr) (rs : List Addr) (kss : List (List Int)) (H' : Hp), But g H H' → Gen H' g n → Tab H' p rs kss → Fine k kss → kss.length = m → H p = none → (∀ r ∈ rs, H r = none) → Q (.ref p) H'
end GL

namespace GL
open PySem PySem.Spec PyProof.Rows L2
abbrev NearT := Addr × List Addr × List (List Int)
/-- at p a list of companies that one deed makes, all new -/
structure Nears (H0 H : Hp) (p : Addr) (us : List NearT) (k : Int) (kss : List (List Int)) : Prop where
  top : H p = some (.lst (us.map fun u => V.ref u.1))
  tab : ∀ u ∈ us, Tab (hid H p) u.1 u.2.1 u.2.2 ∧ Step k kss u.2.2
  new : ∀ u ∈ us, H0 u.1 = none ∧ ∀ r ∈ u.2.1, H0 r = none
theorem Nears.same {H0 H H' : Hp} {p : Addr} {us : List NearT} {k : Int} {kss : List (List Int)} (n : Nears H0 H p us k kss) (s : Same H H') : Nears H0 H' p us k kss :=
  ⟨s _ _ n.top, fun u hu => ⟨(n.tab u hu).1.same (hid_mono s), (n.tab u hu).2⟩, n.new⟩
theorem Nears.push {H0 H H' : Hp} {p c : Addr} {us : List NearT} {rs : List Addr} {k : Int} {kss ls : List (List Int)} (n : Nears H0 H p us k kss) (s : Same H H') (t : Tab H' c rs ls) (pc : p ≠ c) (pr : p ∉ rs) (st : Step k kss ls) (n1 : H0 c = none) (n2 : ∀ r ∈ rs, H0 r = none) :
    Nears H0 (upd H' p (.lst ((us.map fun u => V.ref u.1) ++ [V.ref c]))) p (us ++ [(c, rs, ls)]) k kss := by
  refine ⟨by rw [upd_same, List.map_append]; rfl, fun u hu => ?_, fun u hu => ?_⟩
  rotate_left
  · rcases List.mem_append.mp hu with hu | hu
    · exact n.new u hu
    · rw [List.mem_singleton] at hu
      subst hu
      exact ⟨n1, n2⟩
  rw [hid_upd]
  rcases List.mem_append.mp hu with hu | hu
  · exact ⟨(n.tab u hu).1.same (hid_mono s), (n.tab u hu).2⟩
  · rw [List.mem_singleton] at hu
    subst hu
    exact ⟨⟨hid_in t.top pc.symm, t.len, fun i r ks a b => hid_in (t.row i r ks a b) fun z => pr (by rw [← z]; exact List.mem_of_getElem? a), t.nd⟩, st⟩
/-- a number of one row is put -/
theorem Tab.put {H : Hp} {c r : Addr} {rs : List Addr} {kss : List (List Int)} {ks : List Int} {b a : Nat} {v : Int} (t : Tab H c rs kss) (hb : rs[b]? = some r) (hk : kss[b]? = some ks) (cr : c ∉ rs) :
    Tab (upd H r (.lst ((ks.map V.int).set a (.int v)))) c rs (setT kss b a v) := by
  have c1 : c ≠ r := fun z => cr (by rw [z]; exact List.mem_of_getElem? hb)
  refine ⟨by rw [upd_ne c1]; exact t.top, by rw [setT_len]; exact t.len, fun i q ls h1 h2 => ?_, t.nd⟩
  unfold setT at h2
  rw [List.getElem?_set] at h2
  by_cases e : b = i
  · subst e
    rw [if_pos rfl, if_pos (List.getElem?_eq_some_iff.mp hk).1] at h2
    cases h2
    rw [hb] at h1
    cases h1
    rw [upd_same, List.getD_eq_getElem?_getD, hk, List.map_set]
    rfl
  · rw [if_neg e] at h2
    have qr : q ≠ r := fun z => by
      subst z
      have h3 := List.getElem?_eq_some_iff.mp h1
      have h4 := List.getElem?_eq_some_iff.mp hb
      exact e ((List.getElem_inj t.nd).mp (h4.2.trans h3.2.symm))
    rw [upd_ne qr]
    exact t.row i q ls h1 h2
def spNear : Sp := fun vs H Q _ => ∃ (k : Int) (c : Addr) (rs : List Addr) (kss : List (List Int)), vs = [.int k, .ref c] ∧ 2 ≤ k ∧ k ≤ 9 ∧ Tab H c rs kss ∧ Fine k kss ∧ kss.length ≤ 20 ∧
  ∀ (p : Addr) (us : List NearT) (H' : Hp), Same H H' → H p = none → us.length ≤ 4000 → Nears H H' p us k kss → Q (.ref p) H'
def spLed : Sp := fun vs H Q _ => ∃ (g : Addr) (k : Int) (c : Addr) (t n : Nat) (rs : List Addr) (kss : List (List Int)), vs = [.ref g, .int k, .ref c, .int t] ∧ t ≤ 100 ∧ 2 ≤ k ∧ k ≤ 9 ∧ Gen H g (n + 5 * t) ∧ Tab H c rs kss ∧ Fine k kss ∧ kss.length ≤ 20 ∧ c ≠ g ∧ g ∉ rs ∧
  ∀ (p : Addr) (ps : List Addr) (ls : List (List Int)) (H' : Hp), But g H H' → Gen H' g n → Tab H' p ps ls → Led k kss ls → p ≠ g → g ∉ ps → Q (.ref p) H'
end GL

namespace GL
open PySem PySem.Spec PyProof.Rows L2
/-! ### the parts of a reading, by name -/
theorem tLc_of {wi : TI} {g : TG} {tt : TT} {te : TE} {vs : List Nat} {σ : L2.St} {H : Hp} {Q : VK} (h : wi σ H fun J H1 => ∀ D, H1 D = none → ∃ W : Nat → Nat → Hp → Prop, (∃ m, W 0 m (upd H1 D (.lst []))) ∧ ∀ i m H, W i m H →
  (J.stop i H ∧ Q (.ref D) H) ∨ (J.go i H ∧ ∃ Nx : Hp → Prop, (∀ H', Nx H' → ∃ m', m' < m ∧ W (i + 1) m' H') ∧ ∀ x H', J.yld i H x H' → g x (wipe σ vs) H' fun σ2 H2 => wipe σ2 vs = wipe σ vs ∧ tt σ2 H2 fun b H3 =>
    if b = true then te σ2 H3 fun y H4 => ∃ acc, H4 D = some (.lst acc) ∧ acc.length < sizeLine ∧ Nx (upd H4 D (.lst (acc ++ [y]))) else Nx H3)) : tLc wi g tt te vs σ H Q := h
theorem iRng2_of {ta : TA} {σ : L2.St} {H : Hp} {R : It → Hp → Prop} (h : ta σ H fun vs H1 => ∃ i j : Int, vs = [.int i, .int j] ∧ (-(2 ^ 62) ≤ i ∧ i < 2 ^ 62 ∧ -(2 ^ 62) ≤ j ∧ j < 2 ^ 62) ∧ R (Itr i (j - i).toNat) H1) : iRng2 ta σ H R := h
theorem tCons_of {t : TE} {u : TA} {σ : L2.St} {H : Hp} {Q : List V → Hp → Prop} (h : t σ H fun x H1 => u σ H1 fun xs H2 => Q (x :: xs) H2) : tCons t u σ H Q := h
theorem tAsg_of {t : TE} {g : TG} {D : Ends} {σ : L2.St} {H : Hp} (h : t σ H fun x H1 => g x σ H1 D.nx) : tAsg t g D σ H := h
theorem tSeq_of {a b : TS} {D : Ends} {σ : L2.St} {H : Hp} (h : a { D with nx := fun σ' H' => b D σ' H' } σ H) : tSeq a b D σ H := h
theorem tNext_of {D : Ends} {σ : L2.St} {H : Hp} (h : D.nx σ H) : tNext D σ H := h
theorem tOp_of {r : R2} {a b : TE} {σ : L2.St} {H : Hp} {Q : VK} (h : a σ H fun x H1 => b σ H1 fun y H2 => r x y H2 Q) : tOp r a b σ H Q := h
/-- an expression by what it gives -/
theorem te_by {t : TE} {σ : L2.St} {H : Hp} {Q : VK} (R : V → Hp → Prop) (h1 : ∀ Q' : VK, (∀ v H', R v H' → Q' v H') → t σ H Q') (h2 : ∀ v H', R v H' → Q v H') : t σ H Q := h1 _ h2
theorem tIf_by {tA : TT} {ta tb : TE} {σ : L2.St} {H : Hp} {Q : VK} (R : V → Hp → Prop) (h1 : ∀ Q' : VK, (∀ v H', R v H' → Q' v H') → tIf tA ta tb σ H Q') (h2 : ∀ v H', R v H' → Q v H') : tIf tA ta tb σ H Q := h1 _ h2
/-! ### texts that fit -/
def Fit (B d : Nat) (x : PyData) : Prop := x.shown.length ≤ B ∧ x.showable = true ∧ x.depth ≤ d
theorem Fit.leaf {x : PyData} (h : Leaf x) : Fit 110 1 x := Leaf.shown h
theorem Fit.int {i : Int} (h : i.natAbs < 2 ^ 100) : Fit 110 1 (.int i) := Leaf.shown h
theorem Fit.more {B d B' d' : Nat} {x : PyData} (h : Fit B d x) (b : B ≤ B') (e : d ≤ d') : Fit B' d' x := ⟨Nat.le_trans h.1 b, h.2.1, Nat.le_trans h.2.2 e⟩
theorem Fit.list {B d n : Nat} {ds : List PyData} (h : ∀ e ∈ ds, Fit B d e) (l : ds.length ≤ n) : Fit (3 + n * (B + 2)) (d + 1) (.list ds) := by
  have pl := piled_le (B := B) fun x hx => (h x hx).1
  have sh := showableAll_of fun x hx => (h x hx).2.1
  have dp := depthAll_of (n := d) fun x hx => (h x hx).2.2
  have m : ds.length * (B + 2) ≤ n * (B + 2) := Nat.mul_le_mul_right _ l
  refine ⟨?_, by simp only [PyData.showable]; exact sh, by simp only [PyData.depth]; omega⟩
  simp only [PyData.shown]
  have := listText_le (PyData.shownAll ds)
  omega
theorem Fit.tuple {B d n : Nat} {ds : List PyData} (h : ∀ e ∈ ds, Fit B d e) (l : ds.length ≤ n) : Fit (3 + n * (B + 2)) (d + 1) (.tuple ds) := by
  have pl := piled_le (B := B) fun x hx => (h x hx).1
  have sh := showableAll_of fun x hx => (h x hx).2.1
  have dp := depthAll_of (n := d) fun x hx => (h x hx).2.2
  have m : ds.length * (B + 2) ≤ n * (B + 2) := Nat.mul_le_mul_right _ l
  refine ⟨?_, by simp only [PyData.showable]; exact sh, by simp only [PyData.depth]; omega⟩
  simp only [PyData.shown]
  have := tupleText_le (PyData.shownAll ds)
  omega
theorem Fit.fits {B d : Nat} {x : PyData} (h : Fit B d x) (b : B ≤ 16777216) (e : d ≤ 60) : x.showable = true ∧ x.shown.length ≤ sizeLine ∧ x.depth ≤ 60 := ⟨h.2.1, Nat.le_trans h.1 (by rw [sizeLine_eq]; exact b), Nat.le_trans h.2.2 e⟩
theorem Fit.ints {n : Nat} {ns : List Int} (l : ns.length ≤ n) (b : ∀ z ∈ ns, z.natAbs < 2 ^ 100) : Fit (3 + n * 112) 2 (rowP ns) := Fit.list (B := 110) (d := 1) (fun e he => by
  obtain ⟨z, hz, rfl⟩ := List.mem_map.mp he
  exact Fit.int (b z hz)) (by rw [List.length_map]; exact l)
theorem tieN_abs {k : Int} {kss : List (List Int)} (f : Fine k kss) (hk : k ≤ 100) (i j : Nat) : (tieN kss i j).natAbs < 2 ^ 100 := by
  unfold tieN
  rw [List.getD_eq_getElem?_getD, List.getD_eq_getElem?_getD]
  cases e : kss[max i j]? with
  | none => simp
  | some ks =>
    show (((ks[min i j]?).getD 0 : Int)).natAbs < _
    cases e2 : ks[min i j]? with
    | none => simp
    | some z =>
      have := (f _ _ e).2 z (List.mem_of_getElem? e2)
      show z.natAbs < _
      omega
/-! ### lots -/
def loN (l : List Nat) : Nat := match l.getLast? with | none => 0 | some x => x + 1
def extN (n : Nat) (l : List Nat) : List (List Nat) := (List.range (n - loN l)).map fun j => l ++ [loN l + j]
def lotsK (n : Nat) : Nat → List (List Nat)
  | 0 => [[]]
  | m + 1 => (lotsK n m).flatMap (extN n)
theorem lots_len (n : Nat) : ∀ m, (lotsK n m).length ≤ n ^ m
  | 0 => Nat.le_refl _
  | m + 1 => by
    have ih := lots_len n m
    show ((lotsK n m).flatMap (extN n)).length ≤ _
    generalize lotsK n m = L at ih
    have : ∀ L : List (List Nat), (L.flatMap (extN n)).length ≤ L.length * n := fun L => by
      induction L with
      | nil => simp
      | cons a L ih =>
        rw [List.flatMap_cons, List.length_append, List.length_cons, Nat.succ_mul]
        have : (extN n a).length ≤ n := by
          unfold extN
          rw [List.length_map, List.length_range]
          omega
        omega
    rw [Nat.pow_succ]
    exact Nat.le_trans (this L) (Nat.mul_le_mul_right _ ih)
theorem ext_len (n : Nat) (l : List Nat) : (extN n l).length ≤ n := by
  unfold extN
  rw [List.length_map, List.length_range]
  omega
theorem lots_ok (n : Nat) : ∀ m, ∀ l ∈ lotsK n m, l.length = m ∧ loN l ≤ n
  | 0, l, h => by
    have h : l ∈ [[]] := h
    rw [List.mem_singleton] at h
    subst h
    exact ⟨rfl, Nat.zero_le _⟩
  | m + 1, l, h => by
    have h : l ∈ (lotsK n m).flatMap (extN n) := h
    obtain ⟨l', h1, h2⟩ := List.mem_flatMap.mp h
    obtain ⟨j, hj, rfl⟩ := List.mem_map.mp h2
    have := List.mem_range.mp hj
    obtain ⟨e, _⟩ := lots_ok n m l' h1
    refine ⟨by rw [List.length_append, e]; rfl, ?_⟩
    have : loN (l' ++ [loN l' + j]) = loN l' + j + 1 := by
      show (match (l' ++ [loN l' + j]).getLast? with | none => 0 | some x => x + 1) = _
      rw [List.getLast?_append]
      rfl
    omega
abbrev Lists (H0 H : Hp) (p : Addr) (rs : List Addr) (L : List (List Nat)) : Prop := Objs H0 H p rs L.length fun i => .lst (natV (L.getD i []))
theorem Objs.held {H0 H : Hp} {p : Addr} {rs : List Addr} {n : Nat} {o : Nat → HO} (a : Objs H0 H p rs n o) {r : Addr} (h : r ∈ rs) : ∃ u, H r = some u := by
  obtain ⟨j, hj⟩ := List.getElem?_of_mem h
  exact ⟨_, a.row j r hj⟩
theorem Lists.cat {H0 H1 H2 H3 : Hp} {p1 p2 p3 : Addr} {rs1 rs2 : List Addr} {L1 L2 : List (List Nat)} (a : Lists H0 H1 p1 rs1 L1) (b : Lists H1 H2 p2 rs2 L2) (s01 : Same H0 H1) (s12 : Same H1 H2) (s23 : Same H2 H3) (hp : H2 p3 = none) (h3 : H3 p3 = some (.lst (rs1.map V.ref ++ rs2.map V.ref))) :
    Lists H0 H3 p3 (rs1 ++ rs2) (L1 ++ L2) := by
  refine ⟨by rw [h3, List.map_append], by rw [List.length_append, List.length_append, a.len, b.len], fun i r h => ?_, ?_, ?_, fun r h => ?_⟩
  · by_cases c : i < rs1.length
    · rw [List.getElem?_append_left c] at h
      rw [s23 _ _ (s12 _ _ (a.row i r h)), List.getD_eq_getElem?_getD, List.getD_eq_getElem?_getD, List.getElem?_append_left (by rw [← a.len]; exact c)]
    · rw [List.getElem?_append_right (by omega)] at h
      have e := a.len
      rw [s23 _ _ (b.row _ r h), List.getD_eq_getElem?_getD, List.getD_eq_getElem?_getD, List.getElem?_append_right (by omega), e]
  · rw [List.nodup_append]
    refine ⟨a.nd, b.nd, fun x hx y hy z => ?_⟩
    subst z
    obtain ⟨u, hu⟩ := a.held hx
    rw [b.new x hy] at hu
    cases hu
  · intro h
    rcases List.mem_append.mp h with h | h
    · obtain ⟨u, hu⟩ := a.held h
      rw [s12 _ _ hu] at hp
      cases hp
    · obtain ⟨u, hu⟩ := b.held h
      rw [hu] at hp
      cases hp
  · rcases List.mem_append.mp h with h | h
    · exact a.new r h
    · exact s01.free (b.new r h)
def spLots : Sp := fun vs H Q _ => ∃ n m : Nat, vs = [.int n, .int m] ∧ n ≤ 20 ∧ m ≤ 5 ∧ ∀ (p : Addr) (rs : List Addr) (H' : Hp), Same H H' → H p = none → Lists H H' p rs (lotsK n m) → Q (.ref p) H'
theorem lots_fours : ∀ n, n ≤ 10 → lotsK n 4 = Cmb.choices n 4 := by decide +kernel
theorem nat_last {l : List Nat} (h : l ≠ []) : ∃ x : Nat, loN l = x + 1 ∧ atI (natV l) (((natV l).length : Int) - 1) = some (.int x) := by
  have hl : 0 < l.length := List.length_pos_iff.mpr h
  refine ⟨l[l.length - 1], ?_, at_of (j := l.length - 1) ?_ ?_⟩
  · unfold loN
    rw [List.getLast?_eq_getElem?, List.getElem?_eq_getElem (by omega)]
  · unfold natV
    rw [List.length_map]
    omega
  · unfold natV
    rw [List.getElem?_map, List.getElem?_eq_getElem (by omega)]
    rfl
theorem take_flat (L : List (List Nat)) (f : List Nat → List (List Nat)) {i : Nat} (h : i < L.length) : (L.take (i + 1)).flatMap f = (L.take i).flatMap f ++ f (L.getD i []) := by
  rw [List.take_add_one, List.flatMap_append, List.getElem?_eq_getElem h, List.getD_eq_getElem?_getD, List.getElem?_eq_getElem h]
  show _ ++ [L[i]].flatMap f = _ ++ f L[i]
  rw [List.flatMap_cons, List.flatMap_nil, List.append_nil]
theorem flat_len (L : List (List Nat)) (n : Nat) : (L.flatMap (extN n)).length ≤ L.length * n := by
  induction L with
  | nil => simp
  | cons a L ih =>
    rw [List.flatMap_cons, List.length_append, List.length_cons, Nat.succ_mul]
    have := ext_len n a
    omega
end GL

namespace GL
open PySem PySem.Spec PyProof.Rows L2
def c6 (i : Nat) : Nat × Nat := (cplTo 4 4).getD i (0, 0)
theorem firm_named {k : Int} {kss : List (List Int)} (f : Fine k kss) {p q r s : Nat} (pq : p < q) (qr : q < r) (rs : r < s) (hs : s < kss.length) : (((List.range 6).filter fun i => alikeB (namedK kss [p, q, r, s]) (c6 i).1 (c6 i).2).map fun _ => V.int 1).isEmpty = firmL (sixL kss [p, q, r, s]) := by
  have e : ∀ i j, i < 4 → j < 4 → i ≠ j → tieN (namedK kss [p, q, r, s]) i j = tieN kss ([p, q, r, s].getD i 0) ([p, q, r, s].getD j 0) := fun i j hi hj ne => tie_named (os := [p, q, r, s]) hi hj ne
  have ln : (namedK kss [p, q, r, s]).length = 4 := named_len _ _
  have r4 : List.range 4 = [0, 1, 2, 3] := rfl
  have r6 : List.range 6 = [0, 1, 2, 3, 4, 5] := rfl
  have a01 : alikeB (namedK kss [p, q, r, s]) 0 1 = (decide (tieN kss p r = tieN kss q r) && decide (tieN kss p s = tieN kss q s)) := by
    unfold alikeB
    rw [ln, r4]
    have x1 := e 2 0 (by decide) (by decide) (by decide)
    have x2 := e 2 1 (by decide) (by decide) (by decide)
    have x3 := e 3 0 (by decide) (by decide) (by decide)
    have x4 := e 3 1 (by decide) (by decide) (by decide)
    simp only [List.all_cons, List.all_nil, x1, x2, x3, x4]
    simp [tieN_comm kss r, tieN_comm kss s]
  have a02 : alikeB (namedK kss [p, q, r, s]) 0 2 = (decide (tieN kss p q = tieN kss q r) && decide (tieN kss p s = tieN kss r s)) := by
    unfold alikeB
    rw [ln, r4]
    have x1 := e 1 0 (by decide) (by decide) (by decide)
    have x2 := e 1 2 (by decide) (by decide) (by decide)
    have x3 := e 3 0 (by decide) (by decide) (by decide)
    have x4 := e 3 2 (by decide) (by decide) (by decide)
    simp only [List.all_cons, List.all_nil, x1, x2, x3, x4]
    simp [tieN_comm kss q p, tieN_comm kss s]
  have a03 : alikeB (namedK kss [p, q, r, s]) 0 3 = (decide (tieN kss p q = tieN kss q s) && decide (tieN kss p r = tieN kss r s)) := by
    unfold alikeB
    rw [ln, r4]
    have x1 := e 1 0 (by decide) (by decide) (by decide)
    have x2 := e 1 3 (by decide) (by decide) (by decide)
    have x3 := e 2 0 (by decide) (by decide) (by decide)
    have x4 := e 2 3 (by decide) (by decide) (by decide)
    simp only [List.all_cons, List.all_nil, x1, x2, x3, x4]
    simp [tieN_comm kss q p, tieN_comm kss r p]
  have a12 : alikeB (namedK kss [p, q, r, s]) 1 2 = (decide (tieN kss p q = tieN kss p r) && decide (tieN kss q s = tieN kss r s)) := by
    unfold alikeB
    rw [ln, r4]
    have x1 := e 0 1 (by decide) (by decide) (by decide)
    have x2 := e 0 2 (by decide) (by decide) (by decide)
    have x3 := e 3 1 (by decide) (by decide) (by decide)
    have x4 := e 3 2 (by decide) (by decide) (by decide)
    simp only [List.all_cons, List.all_nil, x1, x2, x3, x4]
    simp [tieN_comm kss s]
  have a13 : alikeB (namedK kss [p, q, r, s]) 1 3 = (decide (tieN kss p q = tieN kss p s) && decide (tieN kss q r = tieN kss r s)) := by
    unfold alikeB
    rw [ln, r4]
    have x1 := e 0 1 (by decide) (by decide) (by decide)
    have x2 := e 0 3 (by decide) (by decide) (by decide)
    have x3 := e 2 1 (by decide) (by decide) (by decide)
    have x4 := e 2 3 (by decide) (by decide) (by decide)
    simp only [List.all_cons, List.all_nil, x1, x2, x3, x4]
    simp [tieN_comm kss r q]
  have a23 : alikeB (namedK kss [p, q, r, s]) 2 3 = (decide (tieN kss p r = tieN kss p s) && decide (tieN kss q r = tieN kss q s)) := by
    unfold alikeB
    rw [ln, r4]
    have x1 := e 0 2 (by decide) (by decide) (by decide)
    have x2 := e 0 3 (by decide) (by decide) (by decide)
    have x3 := e 1 2 (by decide) (by decide) (by decide)
    have x4 := e 1 3 (by decide) (by decide) (by decide)
    simp only [List.all_cons, List.all_nil, x1, x2, x3, x4]
    simp
  have em : ∀ l : List Nat, ∀ g : Nat → Bool, ((l.filter g).map fun _ => V.int 1).isEmpty = l.all fun i => !g i := fun l g => by
    induction l with
    | nil => rfl
    | cons a l ih =>
      rw [List.filter_cons, List.all_cons]
      cases g a with
      | true => rfl
      | false =>
        rw [if_neg (by decide), ih]
        rfl
  rw [em, r6]
  show (!alikeB _ 0 1 && (!alikeB _ 0 2 && (!alikeB _ 0 3 && (!alikeB _ 1 2 && (!alikeB _ 1 3 && (!alikeB _ 2 3 && true)))))) = firmB (tieN kss p q) (tieN kss p r) (tieN kss p s) (tieN kss q r) (tieN kss q s) (tieN kss r s)
  rw [a01, a02, a03, a12, a13, a23]
  unfold firmB
  have db : ∀ x y : Int, (x == y) = decide (x = y) := fun x y => by by_cases h : x = y <;> simp [h]
  simp only [Bool.and_true, Bool.not_or, db]
theorem six_named {k : Int} {kss : List (List Int)} {p q r s : Nat} : ((List.range 6).map fun i => V.int (tieN (namedK kss [p, q, r, s]) (c6 i).1 (c6 i).2)) = (sixL kss [p, q, r, s]).map V.int := by
  have e : ∀ i j, i < 4 → j < 4 → i ≠ j → tieN (namedK kss [p, q, r, s]) i j = tieN kss ([p, q, r, s].getD i 0) ([p, q, r, s].getD j 0) := fun i j hi hj ne => tie_named (os := [p, q, r, s]) hi hj ne
  have r6 : List.range 6 = [0, 1, 2, 3, 4, 5] := rfl
  rw [r6]
  show [V.int (tieN _ 0 1), V.int (tieN _ 0 2), V.int (tieN _ 0 3), V.int (tieN _ 1 2), V.int (tieN _ 1 3), V.int (tieN _ 2 3)] = _
  rw [e 0 1 (by decide) (by decide) (by decide), e 0 2 (by decide) (by decide) (by decide), e 0 3 (by decide) (by decide) (by decide), e 1 2 (by decide) (by decide) (by decide), e 1 3 (by decide) (by decide) (by decide), e 2 3 (by decide) (by decide) (by decide)]
  rfl
/-- the firm fours of a company, as data -/
def fourP (kss : List (List Int)) (l : List Nat) : PyData := .tuple [rowP (nums l), rowP (sixL kss l)]
def foursP (kss : List (List Int)) : PyData := .list ((firmK kss).map (fourP kss))
theorem Frs.dt {K : PySem.W.Frag} {f : List Nat → List Int} {H0 H : Hp} {p : Addr} {ts : List FourT} (R : Frs f H0 H p ts) : Dt K H (.ref p) (.list ((ts.map (·.2.2.2)).map fun l => .tuple [rowP (nums l), rowP (f l)])) := by
  refine .lst R.top ?_
  have g : ∀ us : List FourT, (∀ t ∈ us, t ∈ ts) → Dts K H (us.map fun t => V.ref t.1) ((us.map (·.2.2.2)).map fun l => .tuple [rowP (nums l), rowP (f l)]) := fun us => by
    induction us with
    | nil => exact fun _ => .nil
    | cons u us ih =>
      intro h
      obtain ⟨a1, a2, a3⟩ := R.row u (h u (List.mem_cons_self ..))
      exact .cons (.tup a1 (.cons (nat_dt a2) (.cons (.lst a3 (dts_ints _)) .nil))) (ih fun t ht => h t (List.mem_cons_of_mem _ ht))
  exact g ts fun _ h => h
theorem fours_dt {K : PySem.W.Frag} {kss : List (List Int)} {H0 H : Hp} {p : Addr} {ts : List FourT} (R : Frs (sixL kss) H0 H p ts) (e : ts.map (·.2.2.2) = firmK kss) : Dt K H (.ref p) (foursP kss) := by
  have := R.dt (K := K)
  rw [e] at this
  exact this
theorem fours_fit {k : Int} {kss : List (List Int)} (f : Fine k kss) (hk : k ≤ 9) (hn : kss.length ≤ 14) : (foursP kss).showable = true ∧ (foursP kss).shown.length ≤ sizeLine ∧ (foursP kss).depth ≤ 60 := by
  have one : ∀ l ∈ firmK kss, Fit 1600 3 (fourP kss l) := fun l hl => by
    obtain ⟨p, q, r, s, rfl, pq, qr, rs, sn⟩ := four_of (List.mem_filter.mp hl).1
    have h1 : Fit 675 2 (rowP (nums [p, q, r, s])) := Fit.ints (n := 6) (by show 4 ≤ 6; decide) fun z hz => by
      unfold nums at hz
      obtain ⟨j, hj, rfl⟩ := List.mem_map.mp hz
      have : j < 14 := by
        simp at hj
        omega
      show ((j : Nat) : Int).natAbs < 2 ^ 100
      omega
    have h2 : Fit 675 2 (rowP (sixL kss [p, q, r, s])) := Fit.ints (n := 6) (by show 6 ≤ 6; decide) fun z hz => by
      have : ∃ i j, z = tieN kss i j := by
        unfold sixL at hz
        simp at hz
        rcases hz with h | h | h | h | h | h <;> exact ⟨_, _, h⟩
      obtain ⟨i, j, rfl⟩ := this
      exact tieN_abs f (by omega) i j
    exact (Fit.tuple (B := 675) (d := 2) (n := 2) (fun e he => by
      rcases List.mem_cons.mp he with rfl | he
      · exact h1
      · rw [List.mem_singleton] at he
        subst he
        exact h2) (Nat.le_refl _)).more (by decide) (Nat.le_refl _)
  have len : (firmK kss).length ≤ 2380 := by
    have h1 : (firmK kss).length ≤ (Cmb.choices kss.length 4).length := List.length_filter_le _ _
    have h2 : ∀ n, n ≤ 14 → (Cmb.choices n 4).length ≤ 2380 := by decide +kernel
    exact Nat.le_trans h1 (h2 _ hn)
  exact (Fit.list (B := 1600) (d := 3) (n := 2380) (fun e he => by
    obtain ⟨l, hl, rfl⟩ := List.mem_map.mp he
    exact one l hl) (by rw [List.length_map]; exact len)).fits (by decide) (by decide)
def spFirm2 : Sp := fun vs H Q _ => ∃ (c : Addr) (rs : List Addr) (kss : List (List Int)) (k : Int), vs = [.ref c] ∧ Tab H c rs kss ∧ Fine k kss ∧ kss.length ≤ 10 ∧
  ∀ (p : Addr) (ts : List FourT) (H' : Hp), Same H H' → H p = none → Frs (sixL kss) H H' p ts → ts.map (·.2.2.2) = firmK kss → Q (.ref p) H'
end GL

namespace GL
open PySem PySem.Spec PyProof.Rows L2
theorem cells_cons (t : FourT) (ts : List FourT) : cells (t :: ts) = t.2.1 :: t.2.2.1 :: cells ts := rfl
theorem cells_own {ts : List FourT} (nd : (cells ts).Nodup) {t : FourT} (h : t ∈ ts) : t.2.1 ≠ t.2.2.1 := by
  induction ts with
  | nil => cases h
  | cons u ts ih =>
    rw [cells_cons, List.nodup_cons, List.nodup_cons] at nd
    rcases List.mem_cons.mp h with rfl | h
    · exact fun z => nd.1 (by rw [z]; exact List.mem_cons_self ..)
    · exact ih nd.2.2 h
theorem cells_sep {ts : List FourT} (nd : (cells ts).Nodup) : ∀ {i j : Nat} {t u : FourT}, ts[i]? = some t → ts[j]? = some u → i ≠ j → ∀ x y, (x = t.2.1 ∨ x = t.2.2.1) → (y = u.2.1 ∨ y = u.2.2.1) → x ≠ y := by
  induction ts with
  | nil => intro i j t u h1; simp at h1
  | cons a ts ih =>
    rw [cells_cons, List.nodup_cons, List.nodup_cons] at nd
    have far : ∀ {k : Nat} {u : FourT}, ts[k]? = some u → ∀ x y, (x = a.2.1 ∨ x = a.2.2.1) → (y = u.2.1 ∨ y = u.2.2.1) → x ≠ y := fun {k u} h x y hx hy z => by
      subst z
      have m : x ∈ cells ts := cells_mem.mpr ⟨u, List.mem_of_getElem? h, hy⟩
      rcases hx with rfl | rfl
      · exact nd.1 (List.mem_cons_of_mem _ m)
      · exact nd.2.1 m
    intro i j t u h1 h2 ne x y hx hy
    cases i with
    | zero =>
      cases h1
      cases j with
      | zero => exact (ne rfl).elim
      | succ j => exact far h2 x y hx hy
    | succ i =>
      cases j with
      | zero =>
        cases h2
        exact fun z => far h1 y x hy hx z.symm
      | succ j => exact ih nd.2.2 (i := i) (j := j) h1 h2 (fun z => ne (by rw [z])) x y hx hy
/-- the lists of the first i fours have got one more number -/
structure Grown9 (f : List Nat → List Int) (H : Hp) (p : Addr) (ts : List FourT) (i : Nat) : Prop where
  top : H p = some (.lst (ts.map fun t => V.ref t.1))
  row : ∀ t ∈ ts, H t.1 = some (.tup [.ref t.2.1, .ref t.2.2.1])
  old : ∀ (j : Nat) (t : FourT), ts[j]? = some t → i ≤ j → H t.2.1 = some (.lst (natV t.2.2.2)) ∧ H t.2.2.1 = some (.lst ((f t.2.2.2).map V.int))
  grown : ∀ (j : Nat) (t : FourT), ts[j]? = some t → j < i → H t.2.1 = some (.lst (natV t.2.2.2 ++ [.int 9])) ∧ H t.2.2.1 = some (.lst ((f t.2.2.2).map V.int ++ [.int 9]))
theorem Grown9.next {f : List Nat → List Int} {H H0 : Hp} {p : Addr} {ts : List FourT} {i : Nat} {t : FourT} (g : Grown9 f H p ts i) (nd : (cells ts).Nodup) (sep : ∀ t ∈ ts, p ≠ t.1 ∧ p ≠ t.2.1 ∧ p ≠ t.2.2.1) (h : ts[i]? = some t) :
    Grown9 f (upd (upd H t.2.1 (.lst (natV t.2.2.2 ++ [.int 9]))) t.2.2.1 (.lst ((f t.2.2.2).map V.int ++ [.int 9]))) p ts (i + 1) := by
  have tm := List.mem_of_getElem? h
  obtain ⟨s1, s2, s3⟩ := sep t tm
  obtain ⟨o1, o2⟩ := g.old i t h (Nat.le_refl _)
  have own := cells_own nd tm
  have nt : ∀ u ∈ ts, u.1 ≠ t.2.1 ∧ u.1 ≠ t.2.2.1 := fun u hu => ⟨ne_of (g.row u hu) o1 (by intro z; cases z), ne_of (g.row u hu) o2 (by intro z; cases z)⟩
  refine ⟨by rw [upd_ne s3, upd_ne s2]; exact g.top, fun u hu => by rw [upd_ne (nt u hu).2, upd_ne (nt u hu).1]; exact g.row u hu, fun j u hj hij => ?_, fun j u hj hij => ?_⟩
  · have sp := fun x y hx hy => cells_sep nd hj h (by omega) x y hx hy
    rw [upd_ne (sp _ _ (.inl rfl) (.inr rfl)), upd_ne (sp _ _ (.inl rfl) (.inl rfl)), upd_ne (sp _ _ (.inr rfl) (.inr rfl)), upd_ne (sp _ _ (.inr rfl) (.inl rfl))]
    exact g.old j u hj (by omega)
  · by_cases e : j = i
    · subst e
      rw [h] at hj
      cases hj
      rw [upd_ne own, upd_same, upd_same]
      exact ⟨rfl, rfl⟩
    · have sp := fun x y hx hy => cells_sep nd hj h e x y hx hy
      rw [upd_ne (sp _ _ (.inl rfl) (.inr rfl)), upd_ne (sp _ _ (.inl rfl) (.inl rfl)), upd_ne (sp _ _ (.inr rfl) (.inr rfl)), upd_ne (sp _ _ (.inr rfl) (.inl rfl))]
      exact g.grown j u hj (by omega)
def spFirmRight : Sp := fun vs H Q _ => ∃ (k : Int) (c : Addr) (rs : List Addr) (kss : List (List Int)), vs = [.int k, .ref c] ∧ 2 ≤ k ∧ k ≤ 9 ∧ Tab H c rs kss ∧ Fine k kss ∧ 1 ≤ kss.length ∧ kss.length ≤ 10 ∧ ∀ H', Same H H' → Q (.bl true) H'
def spSmall : Sp := fun vs H Q _ => ∃ (g : Addr) (n : Nat), vs = [.ref g] ∧ Gen H g (n + 10000) ∧ ∀ H', But g H H' → Q (.bl true) H'
def spLaw (K : PySem.W.Frag) : Sp := fun vs H Q _ => ∃ (a : Addr) (ns : List Int), vs = [.ref a] ∧ SqL K H a (ns.map V.int) ∧ ∀ H', Q (.bl true) H'
theorem FourSame.data {kss ls : List (List Int)} (s : FourSame kss ls) : foursP ls = foursP kss := by
  unfold foursP
  rw [s.1]
  congr 1
  exact List.map_congr_left fun l hl => by
    unfold fourP
    rw [s.2 l hl]
theorem tab_fits {k : Int} {kss : List (List Int)} (f : Fine k kss) (hk : k ≤ 9) (l : kss.length ≤ 40) : (tabP kss).showable = true ∧ (tabP kss).shown.length ≤ sizeLine ∧ (tabP kss).depth ≤ 60 := (nice_tab f hk l).fits
end GL

namespace GL
open PySem PySem.Spec PyProof.Rows L2
theorem tab3 {H : Hp} {p a b c : Addr} {k : Int} {x y z : List Int} (f : Fine k [x, y, z]) (h : H p = some (.lst [.ref a, .ref b, .ref c])) (ha : H a = some (.lst (x.map V.int))) (hb : H b = some (.lst (y.map V.int))) (hc : H c = some (.lst (z.map V.int))) : Tab H p [a, b, c] [x, y, z] :=
  Tab.made f rfl h fun i r ks h1 h2 => by
    match i, h1, h2 with
    | 0, h1, h2 => cases h1; cases h2; exact ha
    | 1, h1, h2 => cases h1; cases h2; exact hb
    | 2, h1, h2 => cases h1; cases h2; exact hc
    | i + 3, h1, h2 => simp at h1
theorem tab4 {H : Hp} {p a b c d : Addr} {k : Int} {x y z u : List Int} (f : Fine k [x, y, z, u]) (h : H p = some (.lst [.ref a, .ref b, .ref c, .ref d])) (ha : H a = some (.lst (x.map V.int))) (hb : H b = some (.lst (y.map V.int))) (hc : H c = some (.lst (z.map V.int))) (hd : H d = some (.lst (u.map V.int))) : Tab H p [a, b, c, d] [x, y, z, u] :=
  Tab.made f rfl h fun i r ks h1 h2 => by
    match i, h1, h2 with
    | 0, h1, h2 => cases h1; cases h2; exact ha
    | 1, h1, h2 => cases h1; cases h2; exact hb
    | 2, h1, h2 => cases h1; cases h2; exact hc
    | 3, h1, h2 => cases h1; cases h2; exact hd
    | i + 4, h1, h2 => simp at h1
def longK (n : Nat) : List (List Int) := (List.range n).map fun i => (List.range i).map fun j => if j + 1 = i then 1 else 0
end GL

/-! Companies with the same words of threes and the same firm fours. -/
namespace GL
open PySem PySem.Spec PyProof.Rows L2
theorem combs_in (n : Nat) : ∀ r d lo, lo + d = n → ∀ l : List Nat, l.length = r → l.Pairwise (· < ·) → (∀ x ∈ l, lo ≤ x ∧ x < n) → l ∈ Cmb.combs n r d lo
  | 0, d, lo, _, l, hl, _, _ => by
    have : l = [] := List.length_eq_zero_iff.mp hl
    subst this
    cases d <;> (rw [Cmb.combs]; exact List.mem_singleton.mpr rfl)
  | r + 1, 0, lo, e, l, hl, _, b => by
    cases l with
    | nil => cases hl
    | cons x l =>
      have := b x (List.mem_cons_self ..)
      omega
  | r + 1, d + 1, lo, e, l, hl, pw, b => by
    rw [Cmb.combs, List.mem_append, List.mem_map]
    cases l with
    | nil => cases hl
    | cons x l =>
      obtain ⟨h1, h2⟩ := List.pairwise_cons.mp pw
      have bx := b x (List.mem_cons_self ..)
      by_cases c : x = lo
      · subst c
        exact .inl ⟨l, combs_in n r d (x + 1) (by omega) l (by simpa using hl) h2 (fun y hy => ⟨h1 y hy, (b y (List.mem_cons_of_mem _ hy)).2⟩), rfl⟩
      · refine .inr (combs_in n (r + 1) d (lo + 1) (by omega) (x :: l) hl pw fun y hy => ?_)
        have := b y hy
        rcases List.mem_cons.mp hy with rfl | hy
        · omega
        · have := h1 y hy
          omega
theorem choices_in {n r : Nat} {l : List Nat} (hl : l.length = r) (pw : l.Pairwise (· < ·)) (b : ∀ x ∈ l, x < n) : l ∈ Cmb.choices n r := combs_in n r n 0 (Nat.zero_add n) l hl pw fun x hx => ⟨Nat.zero_le _, b x hx⟩
/-- any lot of unlike people, in order -/
theorem sorted_in {n : Nat} {l : List Nat} (nd : l.Nodup) (b : ∀ x ∈ l, x < n) : ∃ s, s ∈ Cmb.choices n l.length ∧ s.Perm l := by
  have pm : (l.mergeSort (fun a b => decide (a ≤ b))).Perm l := List.mergeSort_perm l _
  have so : (l.mergeSort (fun a b => decide (a ≤ b))).Pairwise fun a b => decide (a ≤ b) = true := List.pairwise_mergeSort (fun a b c h1 h2 => by simp at *; omega) (fun a b => by simp; omega) l
  refine ⟨_, choices_in pm.length_eq ?_ (fun x hx => b x (pm.mem_iff.mp hx)), pm⟩
  have nd2 := pm.nodup_iff.mpr nd
  have both := so.and nd2
  exact both.imp fun ⟨h1, h2⟩ => by
    have := of_decide_eq_true h1
    omega
def wordL (x y z : Int) : List Int := if x = y ∨ x = z then [x] else if y = z then [y] else [x, y, z]
def wordK (kss : List (List Int)) (l : List Nat) : List Int := wordL (tieN kss (l.getD 0 0) (l.getD 1 0)) (tieN kss (l.getD 0 0) (l.getD 2 0)) (tieN kss (l.getD 1 0) (l.getD 2 0))
/-- two at least are x -/
def Maj (x p q r : Int) : Prop := (p = x ∧ q = x) ∨ (p = x ∧ r = x) ∨ (q = x ∧ r = x)
theorem word_maj {p q r p' q' r' : Int} (h : wordL p q r = wordL p' q' r') : (∀ x, Maj x p q r ↔ Maj x p' q' r') ∧ ((∀ x, ¬ Maj x p q r) → p = p' ∧ q = q' ∧ r = r') := by
  unfold wordL at h
  unfold Maj
  by_cases c1 : p = q ∨ p = r
  · rw [if_pos c1] at h
    by_cases c2 : p' = q' ∨ p' = r'
    · rw [if_pos c2] at h
      have e : p = p' := by simpa using h
      exact ⟨fun x => by omega, fun z => by have := z p; omega⟩
    · rw [if_neg c2] at h
      by_cases c3 : q' = r'
      · rw [if_pos c3] at h
        have e : p = q' := by simpa using h
        exact ⟨fun x => by omega, fun z => by have := z p; omega⟩
      · rw [if_neg c3] at h
        simp at h
  · rw [if_neg c1] at h
    by_cases c4 : q = r
    · rw [if_pos c4] at h
      by_cases c2 : p' = q' ∨ p' = r'
      · rw [if_pos c2] at h
        have e : q = p' := by simpa using h
        exact ⟨fun x => by omega, fun z => by have := z q; omega⟩
      · rw [if_neg c2] at h
        by_cases c3 : q' = r'
        · rw [if_pos c3] at h
          have e : q = q' := by simpa using h
          exact ⟨fun x => by omega, fun z => by have := z q; omega⟩
        · rw [if_neg c3] at h
          simp at h
    · rw [if_neg c4] at h
      by_cases c2 : p' = q' ∨ p' = r'
      · rw [if_pos c2] at h
        simp at h
      · rw [if_neg c2] at h
        by_cases c3 : q' = r'
        · rw [if_pos c3] at h
          simp at h
        · rw [if_neg c3] at h
          obtain ⟨e1, e2, e3⟩ : p = p' ∧ q = q' ∧ r = r' := by simpa using h
          subst e1 e2 e3
          exact ⟨fun x => Iff.rfl, fun _ => ⟨rfl, rfl, rfl⟩⟩
structure WF (kss ls : List (List Int)) : Prop where
  len : ls.length = kss.length
  words : ∀ l ∈ Cmb.choices kss.length 3, wordK ls l = wordK kss l
  fours : FourSame kss ls
theorem WF.refl (kss : List (List Int)) : WF kss kss := ⟨rfl, fun _ _ => rfl, rfl, fun _ _ => rfl⟩
theorem FourSame.symm {kss ls : List (List Int)} (h : FourSame kss ls) : FourSame ls kss := ⟨h.1.symm, fun l hl => (h.2 l (by rw [← h.1]; exact hl)).symm⟩
theorem WF.symm {kss ls : List (List Int)} (h : WF kss ls) : WF ls kss := ⟨h.len.symm, fun l hl => (h.words l (by rw [← h.len]; exact hl)).symm, h.fours.symm⟩
theorem WF.trans {kss ls ms : List (List Int)} (a : WF kss ls) (b : WF ls ms) : WF kss ms := ⟨b.len.trans a.len, fun l hl => (b.words l (by rw [a.len]; exact hl)).trans (a.words l hl), a.fours.trans b.fours⟩
theorem three_of {n : Nat} {l : List Nat} (h : l ∈ Cmb.choices n 3) : ∃ a b c, l = [a, b, c] ∧ a < b ∧ b < c ∧ c < n := by
  have h1 := Cmb.choices_len h
  have h2 := combs_up n 3 n 0 (Nat.zero_add n) l h
  have h3 := Cmb.choices_low h
  match l, h1 with
  | [a, b, c], _ =>
    refine ⟨a, b, c, rfl, ?_, ?_, h3 c (by simp)⟩
    all_goals simp at h2
    all_goals omega
theorem Step.words {k : Int} {kss ls : List (List Int)} (s : Step k kss ls) (f : Fine k kss) : ∀ l ∈ Cmb.choices kss.length 3, wordK ls l = wordK kss l := by
  obtain ⟨a, b, v, ab, hb, al, v0, vk, rfl⟩ := s
  intro l hl
  obtain ⟨p, q, r, rfl, pq, qr, rn⟩ := three_of hl
  show wordL (tieN _ p q) (tieN _ p r) (tieN _ q r) = wordL (tieN kss p q) (tieN kss p r) (tieN kss q r)
  rw [tie_setT f ab hb, tie_setT f ab hb, tie_setT f ab hb]
  by_cases c1 : p = a ∧ q = b
  · obtain ⟨rfl, rfl⟩ := c1
    have e := alike_at al (by omega : r < kss.length) (by omega) (by omega)
    rw [tieN_comm kss r p, tieN_comm kss r q] at e
    rw [if_pos (by omega), if_neg (by omega), if_neg (by omega), e]
    unfold wordL
    split <;> split <;> simp_all
  · by_cases c2 : p = a ∧ r = b
    · obtain ⟨rfl, rfl⟩ := c2
      have e := alike_at al (by omega : q < kss.length) (by omega) (by omega)
      rw [tieN_comm kss q p] at e
      rw [if_neg (by omega), if_pos (by omega), if_neg (by omega), e]
      unfold wordL
      simp
    · by_cases c3 : q = a ∧ r = b
      · obtain ⟨rfl, rfl⟩ := c3
        have e := alike_at al (by omega : p < kss.length) (by omega) (by omega)
        rw [if_neg (by omega), if_neg (by omega), if_pos (by omega), e]
        unfold wordL
        simp
      · rw [if_neg (by omega), if_neg (by omega), if_neg (by omega)]
theorem Step.wf {k : Int} {kss ls : List (List Int)} (s : Step k kss ls) (f : Fine k kss) : WF kss ls := ⟨s.len, s.words f, s.fours f⟩
theorem Led.wf {k : Int} {kss ls : List (List Int)} (l : Led k kss ls) (f : Fine k kss) : WF kss ls := by
  induction l with
  | refl => exact .refl _
  | step l s ih => exact ih.trans (s.wf (l.fine f))
def MP (p q r p' q' r' : Int) : Prop := (∀ x, Maj x p q r ↔ Maj x p' q' r') ∧ ((∀ x, ¬ Maj x p q r) → p = p' ∧ q = q' ∧ r = r')
theorem Maj.s12 {x p q r : Int} : Maj x p q r ↔ Maj x q p r := by
  unfold Maj
  constructor <;> (rintro (⟨a, b⟩ | ⟨a, b⟩ | ⟨a, b⟩) <;> simp [a, b])
theorem Maj.s23 {x p q r : Int} : Maj x p q r ↔ Maj x p r q := by
  unfold Maj
  constructor <;> (rintro (⟨a, b⟩ | ⟨a, b⟩ | ⟨a, b⟩) <;> simp [a, b])
theorem MP.s12 {p q r p' q' r' : Int} (h : MP p q r p' q' r') : MP q p r q' p' r' := ⟨fun x => Maj.s12.trans ((h.1 x).trans Maj.s12), fun z => have ⟨a, b, c⟩ := h.2 fun x y => z x (Maj.s12.mp y); ⟨b, a, c⟩⟩
theorem MP.s23 {p q r p' q' r' : Int} (h : MP p q r p' q' r') : MP p r q p' r' q' := ⟨fun x => Maj.s23.trans ((h.1 x).trans Maj.s23), fun z => have ⟨a, b, c⟩ := h.2 fun x y => z x (Maj.s23.mp y); ⟨a, c, b⟩⟩
def Tri (kss ls : List (List Int)) (i j m : Nat) : Prop := MP (tieN kss i j) (tieN kss i m) (tieN kss j m) (tieN ls i j) (tieN ls i m) (tieN ls j m)
theorem Tri.s12 {kss ls : List (List Int)} {i j m : Nat} (h : Tri kss ls i j m) : Tri kss ls j i m := by
  unfold Tri
  rw [tieN_comm kss j i, tieN_comm ls j i]
  exact MP.s23 h
theorem Tri.s23 {kss ls : List (List Int)} {i j m : Nat} (h : Tri kss ls i j m) : Tri kss ls i m j := by
  unfold Tri
  rw [tieN_comm kss m j, tieN_comm ls m j]
  exact MP.s12 h
/-- of any three -/
theorem WF.three {kss ls : List (List Int)} (h : WF kss ls) {i j m : Nat} (hi : i < kss.length) (hj : j < kss.length) (hm : m < kss.length) (ij : i ≠ j) (im : i ≠ m) (jm : j ≠ m) : Tri kss ls i j m := by
  obtain ⟨s, s1, s2⟩ := sorted_in (n := kss.length) (l := [i, j, m]) (by simp; omega) (by simp; omega)
  obtain ⟨a, b, c, rfl, ab, bc, cn⟩ := three_of s1
  have w : Tri kss ls a b c := word_maj (h.words _ s1).symm
  have mi : i ∈ [a, b, c] := s2.mem_iff.mpr (by simp)
  have mj : j ∈ [a, b, c] := s2.mem_iff.mpr (by simp)
  have mm : m ∈ [a, b, c] := s2.mem_iff.mpr (by simp)
  have ci : i = a ∨ i = b ∨ i = c := by simpa using mi
  have cj : j = a ∨ j = b ∨ j = c := by simpa using mj
  have cm : m = a ∨ m = b ∨ m = c := by simpa using mm
  rcases ci with rfl | rfl | rfl <;> rcases cj with rfl | rfl | rfl <;> rcases cm with rfl | rfl | rfl <;> first
    | (exfalso; omega)
    | exact w
    | exact w.s12
    | exact w.s23
    | exact w.s12.s23
    | exact w.s23.s12
    | exact w.s12.s23.s12
/-- of any four: not all pairs stand alike among them, then the ties are the same -/
theorem WF.four {kss ls : List (List Int)} (h : WF kss ls) {i j m o : Nat} (hi : i < kss.length) (hj : j < kss.length) (hm : m < kss.length) (ho : o < kss.length) (nd : [i, j, m, o].Nodup)
    (firm : ∀ x ∈ [i, j, m, o], ∀ y ∈ [i, j, m, o], x ≠ y → ∃ z ∈ [i, j, m, o], z ≠ x ∧ z ≠ y ∧ tieN kss z x ≠ tieN kss z y) : ∀ x ∈ [i, j, m, o], ∀ y ∈ [i, j, m, o], x ≠ y → tieN kss x y = tieN ls x y := by
  obtain ⟨s, s1, s2⟩ := sorted_in (n := kss.length) (l := [i, j, m, o]) nd (by simp; omega)
  obtain ⟨a, b, c, d, rfl, ab, bc, cd, dn⟩ := four_of s1
  have mem : ∀ {x}, x ∈ [i, j, m, o] ↔ x ∈ [a, b, c, d] := fun {x} => s2.mem_iff.symm
  have fm : firmL (sixL kss [a, b, c, d]) = true := by
    show firmB (tieN kss a b) (tieN kss a c) (tieN kss a d) (tieN kss b c) (tieN kss b d) (tieN kss c d) = true
    have two : ∀ x y u v, x ∈ [a, b, c, d] → y ∈ [a, b, c, d] → x ≠ y → (∀ z ∈ [a, b, c, d], z ≠ x → z ≠ y → z = u ∨ z = v) → ¬ (tieN kss u x = tieN kss u y ∧ tieN kss v x = tieN kss v y) := fun x y u v hx hy ne only both => by
      obtain ⟨z, hz, zx, zy, q⟩ := firm x (mem.mpr hx) y (mem.mpr hy) ne
      rcases only z (mem.mp hz) zx zy with rfl | rfl
      · exact q both.1
      · exact q both.2
    have t1 := two a b c d (by simp) (by simp) (by omega) (by simp)
    have t2 := two a c b d (by simp) (by simp) (by omega) (by simp)
    have t3 := two a d b c (by simp) (by simp) (by omega) (by simp)
    have t4 := two b c a d (by simp) (by simp) (by omega) (by simp)
    have t5 := two b d a c (by simp) (by simp) (by omega) (by simp)
    have t6 := two c d a b (by simp) (by simp) (by omega) (by simp)
    rw [tieN_comm kss c a, tieN_comm kss c b, tieN_comm kss d a, tieN_comm kss d b] at t1
    rw [tieN_comm kss b a, tieN_comm kss d a, tieN_comm kss d c] at t2
    rw [tieN_comm kss b a, tieN_comm kss c a] at t3
    rw [tieN_comm kss d b, tieN_comm kss d c] at t4
    rw [tieN_comm kss c b] at t5
    unfold firmB
    rw [Bool.not_eq_true', Bool.eq_false_iff]
    intro q
    simp only [Bool.or_eq_true, Bool.and_eq_true, beq_iff_eq] at q
    rcases q with q | q | q | q | q | q
    · exact t1 q
    · exact t2 q
    · exact t3 q
    · exact t4 q
    · exact t5 q
    · exact t6 q
  have e := h.fours.2 _ (List.mem_filter.mpr ⟨s1, fm⟩)
  have e' : [tieN ls a b, tieN ls a c, tieN ls a d, tieN ls b c, tieN ls b d, tieN ls c d] = [tieN kss a b, tieN kss a c, tieN kss a d, tieN kss b c, tieN kss b d, tieN kss c d] := e
  obtain ⟨g1, g2, g3, g4, g5, g6⟩ : tieN ls a b = tieN kss a b ∧ tieN ls a c = tieN kss a c ∧ tieN ls a d = tieN kss a d ∧ tieN ls b c = tieN kss b c ∧ tieN ls b d = tieN kss b d ∧ tieN ls c d = tieN kss c d := by simpa using e'
  intro x hx y hy ne
  have cx : x = a ∨ x = b ∨ x = c ∨ x = d := by simpa using mem.mp hx
  have cy : y = a ∨ y = b ∨ y = c ∨ y = d := by simpa using mem.mp hy
  rcases cx with rfl | rfl | rfl | rfl <;> rcases cy with rfl | rfl | rfl | rfl <;> first
    | exact (ne rfl).elim
    | (first | exact g1.symm | exact g2.symm | exact g3.symm | exact g4.symm | exact g5.symm | exact g6.symm)
    | (rw [tieN_comm kss, tieN_comm ls]; first | exact g1.symm | exact g2.symm | exact g3.symm | exact g4.symm | exact g5.symm | exact g6.symm)
theorem not_alike {kss : List (List Int)} {a b : Nat} (h : alikeB kss a b = false) : ∃ m, m < kss.length ∧ m ≠ a ∧ m ≠ b ∧ tieN kss m a ≠ tieN kss m b := by
  apply Classical.byContradiction
  intro z
  have : alikeB kss a b = true := alike_of fun m hm ma mb => Classical.byContradiction fun q => z ⟨m, hm, ma, mb, q⟩
  rw [h] at this
  cases this
theorem Maj.one {x p q r : Int} (m : Maj x p q r) (d : q ≠ r) : x = p := by
  rcases m with m | m | m
  · exact m.1.symm
  · exact m.1.symm
  · exact (d (m.1.trans m.2.symm)).elim
theorem Maj.two {x p q r : Int} (m : Maj x p q r) (d : x ≠ p) : q = x ∧ r = x := by
  rcases m with m | m | m
  · exact (d m.1.symm).elim
  · exact (d m.1.symm).elim
  · exact m
theorem Maj.or {x p q r : Int} (m : Maj x p q r) : q = x ∨ r = x := by
  rcases m with m | m | m
  · exact .inl m.2
  · exact .inr m.2
  · exact .inl m.1
theorem Maj.same {x y p q r : Int} (m : Maj x p q r) (n : Maj y p q r) : x = y := by
  rcases m with m | m | m <;> rcases n with n | n | n <;> omega
/-- no pair of four stands alike among them -/
theorem no_pair (ts : List (List Int)) (i j k l : Nat) (nd : [i, j, k, l].Nodup) (c1 : tieN ts k i ≠ tieN ts k j ∨ tieN ts l i ≠ tieN ts l j) (c2 : tieN ts j i ≠ tieN ts j k ∨ tieN ts l i ≠ tieN ts l k) (c3 : tieN ts j i ≠ tieN ts j l ∨ tieN ts k i ≠ tieN ts k l)
    (c4 : tieN ts i j ≠ tieN ts i k ∨ tieN ts l j ≠ tieN ts l k) (c5 : tieN ts i j ≠ tieN ts i l ∨ tieN ts k j ≠ tieN ts k l) (c6 : tieN ts i k ≠ tieN ts i l ∨ tieN ts j k ≠ tieN ts j l) :
    ∀ x ∈ [i, j, k, l], ∀ y ∈ [i, j, k, l], x ≠ y → ∃ z ∈ [i, j, k, l], z ≠ x ∧ z ≠ y ∧ tieN ts z x ≠ tieN ts z y := by
  have nd' : i ≠ j ∧ i ≠ k ∧ i ≠ l ∧ j ≠ k ∧ j ≠ l ∧ k ≠ l := by
    simp at nd
    exact ⟨nd.1.1, nd.1.2.1, nd.1.2.2, nd.2.1.1, nd.2.1.2, nd.2.2⟩
  obtain ⟨d1, d2, d3, d4, d5, d6⟩ := nd'
  have mk : ∀ u v x y, u ∈ [i, j, k, l] → v ∈ [i, j, k, l] → u ≠ x → u ≠ y → v ≠ x → v ≠ y → (tieN ts u x ≠ tieN ts u y ∨ tieN ts v x ≠ tieN ts v y) → ∃ z ∈ [i, j, k, l], z ≠ x ∧ z ≠ y ∧ tieN ts z x ≠ tieN ts z y := fun u v x y hu hv a1 a2 a3 a4 c => by
    rcases c with c | c
    · exact ⟨u, hu, a1, a2, c⟩
    · exact ⟨v, hv, a3, a4, c⟩
  have flip : ∀ {u v x y : Nat}, (tieN ts u x ≠ tieN ts u y ∨ tieN ts v x ≠ tieN ts v y) → (tieN ts u y ≠ tieN ts u x ∨ tieN ts v y ≠ tieN ts v x) := fun c => c.imp Ne.symm Ne.symm
  have mi : i ∈ [i, j, k, l] := by simp
  have mj : j ∈ [i, j, k, l] := by simp
  have mk' : k ∈ [i, j, k, l] := by simp
  have ml : l ∈ [i, j, k, l] := by simp
  intro x hx y hy ne
  have cx : x = i ∨ x = j ∨ x = k ∨ x = l := by simpa using hx
  have cy : y = i ∨ y = j ∨ y = k ∨ y = l := by simpa using hy
  rcases cx with rfl | rfl | rfl | rfl
  · rcases cy with e | e | e | e
    · exact (ne e.symm).elim
    · rw [e]; exact mk k l _ _ mk' ml d2.symm d4.symm d3.symm d5.symm c1
    · rw [e]; exact mk j l _ _ mj ml d1.symm d4 d3.symm d6.symm c2
    · rw [e]; exact mk j k _ _ mj mk' d1.symm d5 d2.symm d6 c3
  · rcases cy with e | e | e | e
    · rw [e]; exact mk k l _ _ mk' ml d4.symm d2.symm d5.symm d3.symm (flip c1)
    · exact (ne e.symm).elim
    · rw [e]; exact mk i l _ _ mi ml d1 d2 d5.symm d6.symm c4
    · rw [e]; exact mk i k _ _ mi mk' d1 d3 d4.symm d6 c5
  · rcases cy with e | e | e | e
    · rw [e]; exact mk j l _ _ mj ml d4 d1.symm d6.symm d3.symm (flip c2)
    · rw [e]; exact mk i l _ _ mi ml d2 d1 d6.symm d5.symm (flip c4)
    · exact (ne e.symm).elim
    · rw [e]; exact mk i j _ _ mi mj d2 d3 d4 d5 c6
  · rcases cy with e | e | e | e
    · rw [e]; exact mk j k _ _ mj mk' d5 d1.symm d6 d2.symm (flip c3)
    · rw [e]; exact mk i k _ _ mi mk' d3 d1 d6 d4.symm (flip c5)
    · rw [e]; exact mk i j _ _ mi mj d3 d2 d5 d4 (flip c6)
    · exact (ne e.symm).elim
/-- who differ stand alike in one of the two -/
theorem WF.lone {kss ls : List (List Int)} (h : WF kss ls) {a b : Nat} (ha : a < kss.length) (hb : b < kss.length) (ab : a ≠ b) (df : tieN kss a b ≠ tieN ls a b) : alikeB kss a b = true ∨ alikeB ls a b = true := by
  apply Classical.byContradiction
  intro no
  have n1 : alikeB kss a b = false := by
    cases e : alikeB kss a b with
    | false => rfl
    | true => exact (no (.inl e)).elim
  have n2 : alikeB ls a b = false := by
    cases e : alikeB ls a b with
    | false => rfl
    | true => exact (no (.inr e)).elim
  obtain ⟨m, hm, ma, mb, dm⟩ := not_alike n1
  obtain ⟨o, ho, oa, ob, dn⟩ := not_alike n2
  rw [h.len] at ho
  have t1 := h.three ha hb hm ab (Ne.symm ma) (Ne.symm mb)
  have t2 := h.three ha hb ho ab (Ne.symm oa) (Ne.symm ob)
  rw [tieN_comm kss m a, tieN_comm kss m b] at dm
  rw [tieN_comm ls o a, tieN_comm ls o b] at dn
  have m1 : ∃ x, Maj x (tieN kss a b) (tieN kss a m) (tieN kss b m) := Classical.byContradiction fun z => df (t1.2 fun x y => z ⟨x, y⟩).1
  have o1 : ∃ x, Maj x (tieN ls a b) (tieN ls a o) (tieN ls b o) := by
    apply Classical.byContradiction
    intro z
    exact df (t2.2 fun x y => z ⟨x, (t2.1 x).mp y⟩).1
  obtain ⟨x, mx⟩ := m1
  obtain ⟨y, oy⟩ := o1
  have ex := mx.one dm
  have ey := oy.one dn
  have xy : x ≠ y := by rw [ex, ey]; exact df
  have am' := ((t1.1 x).mp mx).two (by rw [← ey]; exact xy)
  have ao := ((t2.1 y).mpr oy).two (by rw [← ex]; exact xy.symm)
  have cm := mx.or
  have co := oy.or
  have mo : m ≠ o := fun z => by
    subst z
    exact dn (am'.1.trans am'.2.symm)
  have nd : [a, b, m, o].Nodup := by
    simp
    exact ⟨⟨ab, Ne.symm ma, Ne.symm oa⟩, ⟨Ne.symm mb, Ne.symm ob⟩, mo⟩
  have cc : ∀ (ts : List (List Int)) (i j : Nat), tieN ts i j = tieN ts j i := tieN_comm
  have k1 : tieN kss m o = y := by
    apply Classical.byContradiction
    intro q
    refine df (h.four ha hb hm ho nd (no_pair kss a b m o nd ?_ ?_ ?_ ?_ ?_ ?_) a (by simp) b (by simp) ab)
    · rw [cc kss m a, cc kss m b]; exact .inl dm
    · rw [cc kss o a, cc kss o m, ao.1]; exact .inr (Ne.symm q)
    · rw [cc kss b a, ← ex, ao.2]; exact .inl xy
    · rw [cc kss o b, cc kss o m, ao.2]; exact .inr (Ne.symm q)
    · rw [← ex, ao.1]; exact .inl xy
    · rw [ao.1, ao.2]
      rcases cm with c | c
      · rw [c]; exact .inl xy
      · rw [c]; exact .inr xy
  have k2 : tieN ls m o = x := by
    apply Classical.byContradiction
    intro q
    refine df ((h.symm.four (by rw [h.len]; exact ha) (by rw [h.len]; exact hb) (by rw [h.len]; exact hm) (by rw [h.len]; exact ho) nd (no_pair ls a b m o nd ?_ ?_ ?_ ?_ ?_ ?_) a (by simp) b (by simp) ab).symm)
    · rw [cc ls o a, cc ls o b]; exact .inr dn
    · rw [cc ls b a, ← ey, am'.2]; exact .inl xy.symm
    · rw [cc ls m a, am'.1]; exact .inr (Ne.symm q)
    · rw [← ey, am'.1]; exact .inl xy.symm
    · rw [cc ls m b, am'.2]; exact .inr (Ne.symm q)
    · rw [am'.1, am'.2]
      rcases co with c | c
      · rw [c]; exact .inl xy
      · rw [c]; exact .inr xy
  have t3 := h.three ha hm ho (Ne.symm ma) (Ne.symm oa) mo
  have m1 : Maj y (tieN kss a m) (tieN kss a o) (tieN kss m o) := .inr (.inr ⟨ao.1, k1⟩)
  have m2 : Maj x (tieN ls a m) (tieN ls a o) (tieN ls m o) := .inr (.inl ⟨am'.1, k2⟩)
  exact xy (m2.same ((t3.1 y).mp m1))
end GL

/-! Data of numbers, lists and tuples alone. -/
namespace GL
open PySem PySem.Spec PyProof.Rows L2
mutual
def plainD : PyData → Bool
  | .none => true
  | .bool _ => false
  | .int _ => true
  | .str _ => false
  | .list xs => plainA xs
  | .tuple xs => plainA xs
  | .dict _ => false
def plainA : List PyData → Bool
  | [] => true
  | x :: xs => plainD x && plainA xs
end
theorem plainA_of : ∀ {xs : List PyData}, (∀ x ∈ xs, plainD x = true) → plainA xs = true
  | [], _ => by simp only [plainA]
  | x :: xs, h => by
    simp only [plainA]
    rw [h x (List.mem_cons_self ..), plainA_of fun y hy => h y (List.mem_cons_of_mem _ hy)]
    rfl
mutual
theorem plain_lay : ∀ d : PyData, plainD d = true → PyData.canLay0 d = true
  | .none, _ => by simp only [PyData.canLay0]
  | .bool _, h => by simp [plainD] at h
  | .int _, _ => by simp only [PyData.canLay0]
  | .str _, h => by simp [plainD] at h
  | .list xs, h => by
    simp only [plainD] at h
    simp only [PyData.canLay0]
    exact plain_layA xs h
  | .tuple xs, h => by
    simp only [plainD] at h
    simp only [PyData.canLay0]
    exact plain_layA xs h
  | .dict _, h => by simp [plainD] at h
theorem plain_layA : ∀ ds : List PyData, plainA ds = true → PyData.canLayAll0 ds = true
  | [], _ => by simp only [PyData.canLayAll0]
  | d :: ds, h => by
    simp only [plainA, Bool.and_eq_true] at h
    simp only [PyData.canLayAll0]
    rw [plain_lay d h.1, plain_layA ds h.2]
    rfl
end
mutual
theorem plain_eqv : ∀ d e : PyData, plainD d = true → plainD e = true → (PyData.eqv d e = true ↔ d = e)
  | .none, e, _, h => by cases e <;> simp_all [PyData.eqv, plainD]
  | .bool _, _, h, _ => by simp [plainD] at h
  | .int i, e, _, h => by cases e <;> simp_all [PyData.eqv, plainD]
  | .str _, _, h, _ => by simp [plainD] at h
  | .list xs, e, h, k => by
    cases e with
    | list ys =>
      simp only [plainD] at h k
      simp only [PyData.eqv]
      rw [plain_eqvA xs ys h k]
      constructor
      · intro z; rw [z]
      · intro z; injection z
    | none => simp [PyData.eqv]
    | bool _ => simp [plainD] at k
    | int _ => simp [PyData.eqv]
    | str _ => simp [plainD] at k
    | tuple _ => simp [PyData.eqv]
    | dict _ => simp [plainD] at k
  | .tuple xs, e, h, k => by
    cases e with
    | tuple ys =>
      simp only [plainD] at h k
      simp only [PyData.eqv]
      rw [plain_eqvA xs ys h k]
      constructor
      · intro z; rw [z]
      · intro z; injection z
    | none => simp [PyData.eqv]
    | bool _ => simp [plainD] at k
    | int _ => simp [PyData.eqv]
    | str _ => simp [plainD] at k
    | list _ => simp [PyData.eqv]
    | dict _ => simp [plainD] at k
  | .dict _, _, h, _ => by simp [plainD] at h
theorem plain_eqvA : ∀ ds es : List PyData, plainA ds = true → plainA es = true → (PyData.eqvAll ds es = true ↔ ds = es)
  | [], [], _, _ => by simp [PyData.eqvAll]
  | [], _ :: _, _, _ => by simp [PyData.eqvAll]
  | _ :: _, [], _, _ => by simp [PyData.eqvAll]
  | d :: ds, e :: es, h, k => by
    simp only [plainA, Bool.and_eq_true] at h k
    simp only [PyData.eqvAll, Bool.and_eq_true]
    rw [plain_eqv d e h.1 k.1, plain_eqvA ds es h.2 k.2]
    constructor
    · rintro ⟨rfl, rfl⟩; rfl
    · intro z; cases z; exact ⟨rfl, rfl⟩
end
theorem plain_shaped {d : PyData} (h : plainD d = true) (n : d.depth ≤ 64) : SeqAt.shaped d = true := by
  unfold SeqAt.shaped
  rw [plain_lay d h, decide_eq_true n]
  rfl
mutual
theorem Dt.toDp {K : PySem.W.Frag} {H : Hp} : ∀ (d : PyData) (v : V), plainD d = true → Dt K H v d → Dp K H v d
  | .none, _, _, h => by cases h; exact .non
  | .bool _, _, p, _ => by simp [plainD] at p
  | .int i, _, _, h => by cases h; exact .int i
  | .str _, _, p, _ => by simp [plainD] at p
  | .list ds, _, p, h => by
    simp only [plainD] at p
    cases h with
    | lst e a => exact .lst (SqL.of e) (Dts.toDp ds _ p a)
  | .tuple ds, _, p, h => by
    simp only [plainD] at p
    cases h with
    | tup e a => exact .tup (SqT.of e) (Dts.toDp ds _ p a)
  | .dict _, _, p, _ => by simp [plainD] at p
theorem Dts.toDp {K : PySem.W.Frag} {H : Hp} : ∀ (ds : List PyData) (vs : List V), plainA ds = true → Dts K H vs ds → DpAll K H vs ds
  | [], _, _, h => by cases h; exact .nil
  | d :: ds, _, p, h => by
    simp only [plainA, Bool.and_eq_true] at p
    cases h with
    | cons a b => exact .cons (Dt.toDp d _ p.1 a) (Dts.toDp ds _ p.2 b)
end
theorem plain_row (ns : List Int) : plainD (rowP ns) = true := by
  unfold rowP
  simp only [plainD]
  exact plainA_of fun x hx => by
    obtain ⟨n, _, rfl⟩ := List.mem_map.mp hx
    simp only [plainD]
def tupP (ns : List Int) : PyData := .tuple (ns.map PyData.int)
theorem plain_tup (ns : List Int) : plainD (tupP ns) = true := by
  unfold tupP
  simp only [plainD]
  exact plainA_of fun x hx => by
    obtain ⟨n, _, rfl⟩ := List.mem_map.mp hx
    simp only [plainD]
theorem map_inj {α β : Type} {f : α → β} (h : ∀ x y, f x = f y → x = y) : ∀ {xs ys : List α}, xs.map f = ys.map f → xs = ys
  | [], [], _ => rfl
  | [], y :: ys, e => by cases e
  | x :: xs, [], e => by cases e
  | x :: xs, y :: ys, e => by
    rw [List.map_cons, List.map_cons, List.cons.injEq] at e
    rw [h x y e.1, map_inj h e.2]
theorem row_inj {x y : List Int} (h : rowP x = rowP y) : x = y := by
  unfold rowP at h
  injection h with h
  exact map_inj (fun a b z => by injection z) h
theorem tup_inj {x y : List Int} (h : tupP x = tupP y) : x = y := by
  unfold tupP at h
  injection h with h
  exact map_inj (fun a b z => by injection z) h
theorem nat_inj {x y : List Nat} (h : rowP (nums x) = rowP (nums y)) : x = y := nums_inj (row_inj h)
end GL

namespace GL
open PySem PySem.Spec PyProof.Rows L2
def spWord : Sp := fun vs H Q _ => ∃ (m T : Addr) (ps : List Addr) (kss : List (List Int)) (a b c : Nat), vs = [.ref m, .ref T] ∧ Mat H m ps kss.length (tieV kss) ∧ H T = some (.tup (Cmb.natT [a, b, c])) ∧ a < b ∧ b < c ∧ c < kss.length ∧
  ∀ (p : Addr) (H' : Hp), Same H H' → H p = none → H' p = some (.tup ((wordK kss [a, b, c]).map V.int)) → Q (.ref p) H'
def spWordsIn : Sp := fun vs H Q _ => ∃ (m : Addr) (ps : List Addr) (kss : List (List Int)), vs = [.ref m] ∧ Mat H m ps kss.length (tieV kss) ∧ kss.length ≤ 40 ∧
  ∀ (p : Addr) (rs : List Addr) (H' : Hp), Same H H' → H p = none → Objs H H' p rs (Cmb.choices kss.length 3).length (fun i => .tup ((wordK kss ((Cmb.choices kss.length 3).getD i [])).map V.int)) → Q (.ref p) H'
def wordsL (kss : List (List Int)) : List (List Int) := (Cmb.choices kss.length 3).map (wordK kss)
def foursL (kss : List (List Int)) : List (List Nat × List Int) := (firmK kss).map fun l => (l, sixL kss l)
def sameB (kss ls : List (List Int)) : Bool := decide (wordsL kss = wordsL ls) && decide (foursL kss = foursL ls)
def wordsP (kss : List (List Int)) : PyData := .list ((wordsL kss).map tupP)
theorem WF.same {kss ls : List (List Int)} (h : WF kss ls) : sameB kss ls = true := by
  unfold sameB
  have e1 : wordsL kss = wordsL ls := by
    unfold wordsL
    rw [h.len]
    exact List.map_congr_left fun l hl => (h.words l hl).symm
  have e2 : foursL kss = foursL ls := by
    unfold foursL
    rw [h.fours.1]
    exact List.map_congr_left fun l hl => by rw [h.fours.2 l hl]
  rw [decide_eq_true e1, decide_eq_true e2]
  rfl
theorem plain_words (kss : List (List Int)) : plainD (wordsP kss) = true := by
  unfold wordsP
  simp only [plainD]
  exact plainA_of fun x hx => by
    obtain ⟨n, _, rfl⟩ := List.mem_map.mp hx
    exact plain_tup n
theorem depth_tupP (ns : List Int) : (tupP ns).depth ≤ 1 := by
  unfold tupP
  simp only [PyData.depth]
  have := PySem.W.depth_ints ns
  omega
theorem shaped_words (kss : List (List Int)) : SeqAt.shaped (wordsP kss) = true := plain_shaped (plain_words kss) (by
  unfold wordsP
  simp only [PyData.depth]
  have := depthAll_of (n := 1) (ds := (wordsL kss).map tupP) fun e he => by
    obtain ⟨x, _, rfl⟩ := List.mem_map.mp he
    exact depth_tupP x
  omega)
theorem eqv_words (kss ls : List (List Int)) : PyData.eqv (wordsP kss) (wordsP ls) = decide (wordsL kss = wordsL ls) := by
  rw [Bool.eq_iff_iff, plain_eqv _ _ (plain_words kss) (plain_words ls), decide_eq_true_eq]
  unfold wordsP
  constructor
  · intro h
    injection h with h
    exact map_inj (fun a b => tup_inj) h
  · intro h
    rw [h]
theorem plain_fours (kss : List (List Int)) : plainD (foursP kss) = true := by
  unfold foursP
  simp only [plainD]
  exact plainA_of fun x hx => by
    obtain ⟨l, _, rfl⟩ := List.mem_map.mp hx
    unfold fourP
    simp only [plainD, plainA]
    rw [plain_row, plain_row]
    rfl
theorem shaped_fours (kss : List (List Int)) : SeqAt.shaped (foursP kss) = true := plain_shaped (plain_fours kss) (by
  unfold foursP
  simp only [PyData.depth]
  have := depthAll_of (n := 2) (ds := (firmK kss).map (fourP kss)) fun e he => by
    obtain ⟨l, _, rfl⟩ := List.mem_map.mp he
    unfold fourP
    simp only [PyData.depth, PyData.depthAll]
    have := depth_row (nums l)
    have := depth_row (sixL kss l)
    omega
  omega)
theorem eqv_fours (kss ls : List (List Int)) : PyData.eqv (foursP kss) (foursP ls) = decide (foursL kss = foursL ls) := by
  rw [Bool.eq_iff_iff, plain_eqv _ _ (plain_fours kss) (plain_fours ls), decide_eq_true_eq]
  have e : ∀ kss : List (List Int), foursP kss = .list ((foursL kss).map fun x => .tuple [rowP (nums x.1), rowP x.2]) := fun kss => by
    unfold foursP foursL
    rw [List.map_map]
    rfl
  rw [e, e]
  constructor
  · intro h
    injection h with h
    refine map_inj (fun a b z => ?_) h
    injection z with z
    rw [List.cons.injEq, List.cons.injEq] at z
    exact Prod.ext (nat_inj z.1) (row_inj z.2.1)
  · intro h
    rw [h]
theorem Objs.words {K : PySem.W.Frag} {H0 H : Hp} {p : Addr} {rs : List Addr} {kss : List (List Int)} (R : Objs H0 H p rs (Cmb.choices kss.length 3).length (fun i => .tup ((wordK kss ((Cmb.choices kss.length 3).getD i [])).map V.int))) : Dt K H (.ref p) (wordsP kss) := by
  refine .lst R.top ?_
  have g : ∀ (n : Nat) (rs : List Addr) (L : List (List Nat)), rs.length = L.length → (∀ (i : Nat) (r : Addr), rs[i]? = some r → H r = some (.tup ((wordK kss (L.getD i [])).map V.int))) → Dts K H (rs.map V.ref) ((L.map (wordK kss)).map tupP) := fun n rs => by
    induction rs with
    | nil =>
      intro L l _
      cases L with
      | nil => exact .nil
      | cons _ _ => cases l
    | cons r rs ih =>
      intro L l h
      cases L with
      | nil => cases l
      | cons x L => exact .cons (.tup (h 0 r rfl) (dts_ints _)) (ih L (by simpa using l) fun i r' hr => h (i + 1) r' hr)
  exact g 0 rs _ R.len R.row
def spSame : Sp := fun vs H Q _ => ∃ (k : Int) (c d : Addr) (rs ps : List Addr) (kss lss : List (List Int)), vs = [.int k, .ref c, .ref d] ∧ 2 ≤ k ∧ k ≤ 9 ∧ Tab H c rs kss ∧ Tab H d ps lss ∧ Fine k kss ∧ Fine k lss ∧ 1 ≤ kss.length ∧ kss.length ≤ 14 ∧ lss.length = kss.length ∧ ∀ H', Same H H' → Q (.bl (sameB kss lss)) H'
def unK (kss ls : List (List Int)) : List (Nat × Nat) := (cplTo kss.length kss.length).filter fun c => !decide (tieN kss c.2 c.1 = tieN ls c.2 c.1)
def loneK (kss ls : List (List Int)) : Option (Nat × Nat) := (unK kss ls).find? fun c => !alikeB kss c.1 c.2 && !alikeB ls c.1 c.2
def optP : Option (Nat × Nat) → PyData
  | none => .none
  | some c => cT c
def spLone : Sp := fun vs H Q _ => ∃ (k : Int) (c d : Addr) (rs ps : List Addr) (kss lss : List (List Int)), vs = [.int k, .ref c, .ref d] ∧ 2 ≤ k ∧ k ≤ 9 ∧ Tab H c rs kss ∧ Tab H d ps lss ∧ Fine k kss ∧ Fine k lss ∧ 1 ≤ kss.length ∧ kss.length ≤ 40 ∧ lss.length = kss.length ∧
  ∀ v H', Same H H' → (∀ K : PySem.W.Frag, Dt K H' v (optP (loneK kss lss))) → Q v H'
theorem find_at {α : Type} {p : α → Bool} : ∀ {l : List α} {i : Nat} {c : α}, (∀ (j : Nat) (x : α), j < i → l[j]? = some x → p x = false) → l[i]? = some c → p c = true → l.find? p = some c
  | [], i, c, _, h, _ => by simp at h
  | a :: l, 0, c, _, h, pc => by
    cases h
    rw [List.find?_cons, pc]
  | a :: l, i + 1, c, h1, h, pc => by
    rw [List.find?_cons, h1 0 a (Nat.succ_pos i) rfl]
    exact find_at (l := l) (i := i) (fun j x hj hx => h1 (j + 1) x (by omega) hx) h pc
theorem lone_symm {kss ls : List (List Int)} (e : ls.length = kss.length) : loneK ls kss = loneK kss ls := by
  unfold loneK unK
  rw [e]
  have e1 : (fun c : Nat × Nat => !decide (tieN ls c.2 c.1 = tieN kss c.2 c.1)) = fun c => !decide (tieN kss c.2 c.1 = tieN ls c.2 c.1) := by
    funext c
    congr 1
    exact decide_eq_decide.mpr ⟨Eq.symm, Eq.symm⟩
  have e2 : (fun c : Nat × Nat => !alikeB ls c.1 c.2 && !alikeB kss c.1 c.2) = fun c => !alikeB kss c.1 c.2 && !alikeB ls c.1 c.2 := by
    funext c
    exact Bool.and_comm _ _
  rw [e1, e2]
theorem WF.none {kss ls : List (List Int)} (h : WF kss ls) : loneK kss ls = none := by
  unfold loneK
  rw [List.find?_eq_none]
  intro c hc
  obtain ⟨h1, h2⟩ := List.mem_filter.mp hc
  obtain ⟨w1, w2, w3⟩ := (cpl_mem _ _ c.1 c.2).mp h1
  have df : tieN kss c.1 c.2 ≠ tieN ls c.1 c.2 := by
    rw [tieN_comm kss, tieN_comm ls]
    simpa using h2
  rcases h.lone w1 w3 (by omega) df with e | e
  · rw [e]; simp
  · rw [e]; simp
def spDue : Sp := fun vs H Q _ => ∃ (k : Int) (c d : Addr) (rs ps : List Addr) (kss lss : List (List Int)), vs = [.ref c, .ref d] ∧ Tab H c rs kss ∧ Tab H d ps lss ∧ Fine k kss ∧ Fine k lss ∧ kss.length ≤ 40 ∧ lss.length = kss.length ∧
  ∀ v H', Same H H' → (∀ K : PySem.W.Frag, Dt K H' v (optP (loneK kss lss))) → Q v H'
theorem lone_find (kss ls : List (List Int)) : loneK kss ls = (cplTo kss.length kss.length).find? fun c => !decide (tieN kss c.2 c.1 = tieN ls c.2 c.1) && (!alikeB kss c.1 c.2 && !alikeB ls c.1 c.2) := by
  unfold loneK unK
  rw [List.find?_filter]
  congr 1
  funext c
  simp only [Bool.decide_and, Bool.decide_eq_true]
def spBent : Sp := fun vs H Q _ => ∃ (g : Addr) (k : Int) (c : Addr) (n : Nat) (rs : List Addr) (kss : List (List Int)), vs = [.ref g, .int k, .ref c] ∧ 2 ≤ k ∧ k ≤ 9 ∧ Gen H g (n + 50) ∧ Tab H c rs kss ∧ Fine k kss ∧ kss.length ≤ 40 ∧ c ≠ g ∧ g ∉ rs ∧
  ∀ (p : Addr) (ps : List Addr) (ls : List (List Int)) (H' : Hp), But g H H' → Gen H' g n → Tab H' p ps ls → Fine k ls → ls.length = kss.length → H p = none → (∀ r ∈ ps, H r = none) → Q (.ref p) H'
end GL

namespace GL
open PySem PySem.Spec PyProof.Rows L2
theorem Tab.upd {H : Hp} {c r : Addr} {rs : List Addr} {kss : List (List Int)} {o : HO} (t : Tab H c rs kss) (cr : c ≠ r) (nr : r ∉ rs) : Tab (L2.upd H r o) c rs kss :=
  ⟨by rw [upd_ne cr]; exact t.top, t.len, fun i q ks a b => by rw [upd_ne (fun z => nr (by rw [← z]; exact List.mem_of_getElem? a))]; exact t.row i q ks a b, t.nd⟩
theorem cpl_lt (n : Nat) (h : 1 ≤ n) : ∀ m, m ≤ n → (cplTo n m).length + m ≤ m * n
  | 0, _ => by
    show 0 + 0 ≤ _
    omega
  | m + 1, hm => by
    show (cplTo n m ++ (List.range (n - (m + 1))).map fun j => (m, m + 1 + j)).length + (m + 1) ≤ _
    rw [List.length_append, List.length_map, List.length_range, Nat.succ_mul]
    have := cpl_lt n h m (by omega)
    omega
theorem cpl_nodup (n : Nat) : ∀ m, (cplTo n m).Nodup
  | 0 => List.nodup_nil
  | m + 1 => by
    show (cplTo n m ++ (List.range (n - (m + 1))).map fun j => (m, m + 1 + j)).Nodup
    rw [List.nodup_append]
    refine ⟨cpl_nodup n m, ?_, fun a ha b hb z => ?_⟩
    · rw [List.Nodup, List.pairwise_map]
      exact List.nodup_range.imp fun h z => h (by injection z with _ z; omega)
    · subst z
      obtain ⟨j, _, rfl⟩ := List.mem_map.mp hb
      have := (cpl_mem n m m (m + 1 + j)).mp ha
      omega
theorem drop_one {α : Type} [BEq α] [LawfulBEq α] {c0 : α} : ∀ {l : List α}, l.Nodup → c0 ∈ l → (l.filter fun c => c != c0).length + 1 = l.length
  | [], _, h => by cases h
  | a :: l, nd, h => by
    obtain ⟨h1, h2⟩ := List.nodup_cons.mp nd
    by_cases e : a = c0
    · subst e
      have all : l.filter (fun c => c != a) = l := List.filter_eq_self.mpr fun x hx => by
        have : x ≠ a := fun z => h1 (by rw [← z]; exact hx)
        simp [this]
      rw [List.filter_cons, if_neg (by simp), all]
      rfl
    · have hm : c0 ∈ l := by
        rcases List.mem_cons.mp h with h | h
        · exact (e h.symm).elim
        · exact h
      rw [List.filter_cons, if_pos (by simp [e]), List.length_cons, List.length_cons, drop_one h2 hm]
theorem un_less {kss ls ks' ls' : List (List Int)} {a b : Nat} (l1 : ks'.length = kss.length) (m : (a, b) ∈ unK kss ls)
    (hg : ∀ x y, x < y → y < kss.length → decide (tieN ks' y x = tieN ls' y x) = (decide (tieN kss y x = tieN ls y x) || decide ((x, y) = (a, b)))) : (unK ks' ls').length + 1 = (unK kss ls).length := by
  have e : unK ks' ls' = (unK kss ls).filter fun c => c != (a, b) := by
    unfold unK
    rw [l1, List.filter_filter]
    refine List.filter_congr fun c hc => ?_
    obtain ⟨w1, w2, w3⟩ := (cpl_mem _ _ c.1 c.2).mp hc
    rw [hg c.1 c.2 w2 w3, Bool.not_or, Bool.and_comm]
    congr 1
    rw [bne]
    congr 1
    rw [Bool.eq_iff_iff, decide_eq_true_eq, beq_iff_eq]
  rw [e]
  exact drop_one ((cpl_nodup _ _).sublist List.filter_sublist) m
/-- a tie of the one is put as in the other -/
theorem put_left {k : Int} {kss ls : List (List Int)} (f : Fine k kss) (g : Fine k ls) (h : WF kss ls) {a b : Nat} (m : (a, b) ∈ unK kss ls) (al : alikeB kss a b = true) :
    Step k kss (setT kss b a (tieN ls b a)) ∧ (unK (setT kss b a (tieN ls b a)) ls).length + 1 = (unK kss ls).length := by
  obtain ⟨h1, _⟩ := List.mem_filter.mp m
  obtain ⟨w1, w2, w3⟩ := (cpl_mem _ _ a b).mp h1
  have v := tieN_in g (i := b) (j := a) (by rw [h.len]; exact w3) (by rw [h.len]; exact w1) (by omega)
  refine ⟨⟨a, b, _, w2, w3, al, v.1, v.2, rfl⟩, un_less (setT_len ..) m fun x y xy yn => ?_⟩
  rw [tie_setT f w2 w3]
  by_cases c : x = a ∧ y = b
  · obtain ⟨rfl, rfl⟩ := c
    rw [if_pos (by omega)]
    simp
  · rw [if_neg (by omega)]
    have : ¬ ((x, y) = (a, b)) := fun z => c (by injection z with z1 z2; exact ⟨z1, z2⟩)
    rw [decide_eq_false this, Bool.or_false]
theorem put_right {k : Int} {kss ls : List (List Int)} (f : Fine k kss) (g : Fine k ls) (h : WF kss ls) {a b : Nat} (m : (a, b) ∈ unK kss ls) (al : alikeB kss a b = false) :
    Step k ls (setT ls b a (tieN kss b a)) ∧ (unK kss (setT ls b a (tieN kss b a))).length + 1 = (unK kss ls).length := by
  obtain ⟨h1, h2⟩ := List.mem_filter.mp m
  obtain ⟨w1, w2, w3⟩ := (cpl_mem _ _ a b).mp h1
  have v := tieN_in f (i := b) (j := a) w3 w1 (by omega)
  have df : tieN kss a b ≠ tieN ls a b := by
    rw [tieN_comm kss, tieN_comm ls]
    simpa using h2
  have al2 : alikeB ls a b = true := by
    rcases h.lone w1 w3 (by omega) df with e | e
    · rw [al] at e
      cases e
    · exact e
  refine ⟨⟨a, b, _, w2, by rw [h.len]; exact w3, al2, v.1, v.2, rfl⟩, un_less rfl m fun x y xy yn => ?_⟩
  rw [tie_setT g w2 (by rw [h.len]; exact w3)]
  by_cases c : x = a ∧ y = b
  · obtain ⟨rfl, rfl⟩ := c
    rw [if_pos (by omega)]
    simp
  · rw [if_neg (by omega)]
    have : ¬ ((x, y) = (a, b)) := fun z => c (by injection z with z1 z2; exact ⟨z1, z2⟩)
    rw [decide_eq_false this, Bool.or_false]
theorem opt_fit {o : Option (Nat × Nat)} (h : ∀ c, o = some c → c.1 < 100 ∧ c.2 < 100) : (optP o).showable = true ∧ (optP o).shown.length ≤ sizeLine ∧ (optP o).depth ≤ 60 := by
  cases o with
  | none => exact (Fit.leaf (x := .none) trivial).fits (by decide) (by decide)
  | some c =>
    obtain ⟨h1, h2⟩ := h c rfl
    exact (Fit.tuple (B := 110) (d := 1) (n := 2) (fun e he => by
      rcases List.mem_cons.mp he with rfl | he
      · exact Fit.int (by show ((c.1 : Nat) : Int).natAbs < 2 ^ 100; omega)
      · rw [List.mem_singleton] at he
        subst he
        exact Fit.int (by show ((c.2 : Nat) : Int).natAbs < 2 ^ 100; omega)) (Nat.le_refl _)).fits (by decide) (by decide)
theorem lone_fit {kss ls : List (List Int)} (n : kss.length ≤ 40) : (optP (loneK kss ls)).showable = true ∧ (optP (loneK kss ls)).shown.length ≤ sizeLine ∧ (optP (loneK kss ls)).depth ≤ 60 := opt_fit fun c h => by
  have := List.mem_of_find?_eq_some h
  obtain ⟨w1, w2, w3⟩ := (cpl_mem _ _ c.1 c.2).mp (List.mem_filter.mp this).1
  omega
theorem two_fit {k : Int} {kss ls : List (List Int)} (f : Fine k kss) (g : Fine k ls) (hk : k ≤ 9) (n : kss.length ≤ 40) (m : ls.length ≤ 40) : (twoP kss ls).showable = true ∧ (twoP kss ls).shown.length ≤ sizeLine ∧ (twoP kss ls).depth ≤ 60 := by
  have one : ∀ {kss : List (List Int)}, Fine k kss → kss.length ≤ 40 → Fit 200000 3 (tabP kss) := fun {kss} f n => (Fit.list (B := 4500) (d := 2) (n := 40) (fun e he => by
    obtain ⟨ks, hks, rfl⟩ := List.mem_map.mp he
    obtain ⟨i, hi, e⟩ := List.getElem_of_mem hks
    obtain ⟨a, b⟩ := f i ks (by rw [List.getElem?_eq_getElem hi, e])
    exact (Fit.ints (n := 40) (by omega) fun z hz => by have := b z hz; omega).more (by decide) (Nat.le_refl _)) (by rw [List.length_map]; exact n)).more (by decide) (Nat.le_refl _)
  exact (Fit.list (B := 200000) (d := 3) (n := 2) (fun e he => by
    rcases List.mem_cons.mp he with rfl | he
    · exact one f n
    · rw [List.mem_singleton] at he
      subst he
      exact one g m) (Nat.le_refl _)).fits (by decide) (by decide)
def spPair : Sp := fun vs H Q _ => ∃ (k : Int) (c d : Addr) (rs ps : List Addr) (kss lss : List (List Int)), vs = [.int k, .ref c, .ref d] ∧ 2 ≤ k ∧ k ≤ 9 ∧ Tab H c rs kss ∧ Tab H d ps lss ∧ Fine k kss ∧ Fine k lss ∧ 1 ≤ kss.length ∧ kss.length ≤ 40 ∧ lss.length = kss.length ∧ ∀ H', Same H H' → Q (.bl true) H'
def spRoad : Sp := fun vs H Q _ => ∃ (k : Int) (c d : Addr) (rs ps : List Addr) (kss lss : List (List Int)), vs = [.int k, .ref c, .ref d] ∧ 2 ≤ k ∧ k ≤ 9 ∧ Tab H c rs kss ∧ Tab H d ps lss ∧ Fine k kss ∧ Fine k lss ∧ 1 ≤ kss.length ∧ kss.length ≤ 14 ∧ lss.length = kss.length ∧ WF kss lss ∧ ∀ H', Same H H' → Q (.bl true) H'
theorem dt_non {K : PySem.W.Frag} {H : Hp} {v : V} (h : Dt K H v .none) : v = .non := by
  cases h
  rfl
end GL

namespace GL
open PySem PySem.Spec PyProof.Rows L2
/-! ### two fors in one comprehension -/
theorem lc2_it {J : It} {n : Nat} {G : Hp → Prop} {Y : Nat → Hp → V → Hp → Prop} (w : Walk J n G Y) {g g1 : TG} {tt tt1 : TT} {wi1 : TI} {te : TE} {vs vs1 : List Nat} {σ : L2.St} {H1 : Hp} {D : Addr} {Qd : Hp → Prop} (Pv : Nat → Hp → Prop) (h0 : Pv 0 (upd H1 D (.lst []))) (hG : ∀ i H, i ≤ n → Pv i H → G H)
    (hs : ∀ i x H H', i < n → Pv i H → Y i H x H' → g x (wipe σ vs) H' fun σ2 H2 => wipe σ2 vs = wipe σ vs ∧ tt σ2 H2 fun b H3 =>
      if b = true then wi1 σ2 H3 fun J1 H4 => ∃ W1 : Nat → Nat → Hp → Prop, (∃ m, W1 0 m H4) ∧ ∀ j k H, W1 j k H →
        (J1.stop j H ∧ Pv (i + 1) H) ∨ (J1.go j H ∧ ∃ Nx1 : Hp → Prop, (∀ H', Nx1 H' → ∃ k', k' < k ∧ W1 (j + 1) k' H') ∧ ∀ x H', J1.yld j H x H' → g1 x (wipe σ2 vs1) H' fun σ3 H5 => wipe σ3 vs1 = wipe σ2 vs1 ∧ tt1 σ3 H5 fun b H6 =>
          if b = true then te σ3 H6 fun y H7 => ∃ acc, H7 D = some (.lst acc) ∧ acc.length < sizeLine ∧ Nx1 (upd H7 D (.lst (acc ++ [y]))) else Nx1 H6)
      else Pv (i + 1) H3) (hd : ∀ H, Pv n H → Qd H) :
    ∃ W : Nat → Nat → Hp → Prop, (∃ m, W 0 m (upd H1 D (.lst []))) ∧ ∀ i m H, W i m H →
      (J.stop i H ∧ Qd H) ∨ (J.go i H ∧ ∃ Nx : Hp → Prop, (∀ H', Nx H' → ∃ m', m' < m ∧ W (i + 1) m' H') ∧ ∀ x H', J.yld i H x H' → g x (wipe σ vs) H' fun σ2 H2 => wipe σ2 vs = wipe σ vs ∧ tt σ2 H2 fun b H3 =>
        if b = true then wi1 σ2 H3 fun J1 H4 => ∃ W1 : Nat → Nat → Hp → Prop, (∃ m, W1 0 m H4) ∧ ∀ j k H, W1 j k H →
          (J1.stop j H ∧ Nx H) ∨ (J1.go j H ∧ ∃ Nx1 : Hp → Prop, (∀ H', Nx1 H' → ∃ k', k' < k ∧ W1 (j + 1) k' H') ∧ ∀ x H', J1.yld j H x H' → g1 x (wipe σ2 vs1) H' fun σ3 H5 => wipe σ3 vs1 = wipe σ2 vs1 ∧ tt1 σ3 H5 fun b H6 =>
            if b = true then te σ3 H6 fun y H7 => ∃ acc, H7 D = some (.lst acc) ∧ acc.length < sizeLine ∧ Nx1 (upd H7 D (.lst (acc ++ [y]))) else Nx1 H6)
        else Nx H3) := by
  refine ⟨fun i m H => m = n - i ∧ i ≤ n ∧ Pv i H, ⟨n, by simp, Nat.zero_le _, h0⟩, ?_⟩
  rintro i m H ⟨rfl, hi, p⟩
  have q := hG i H hi p
  by_cases hlt : i < n
  · exact .inr ⟨w.goes i H hlt q, Pv (i + 1), fun H' p' => ⟨n - (i + 1), by omega, rfl, hlt, p'⟩, fun x H' y => hs i x H H' hlt p (w.yields i H x H' hlt q y)⟩
  · have e : i = n := by omega
    subst e
    exact .inl ⟨w.stops H q, hd H p⟩
theorem lc2_in {J : It} {n : Nat} {G : Hp → Prop} {Y : Nat → Hp → V → Hp → Prop} (w : Walk J n G Y) {g1 : TG} {tt1 : TT} {te : TE} {vs1 : List Nat} {σ2 : L2.St} {H4 : Hp} {D : Addr} {Nx : Hp → Prop} (Pv : Nat → Hp → Prop) (h0 : Pv 0 H4) (hG : ∀ i H, i ≤ n → Pv i H → G H)
    (hs : ∀ j x H H', j < n → Pv j H → Y j H x H' → g1 x (wipe σ2 vs1) H' fun σ3 H5 => wipe σ3 vs1 = wipe σ2 vs1 ∧ tt1 σ3 H5 fun b H6 =>
      if b = true then te σ3 H6 fun y H7 => ∃ acc, H7 D = some (.lst acc) ∧ acc.length < sizeLine ∧ Pv (j + 1) (upd H7 D (.lst (acc ++ [y]))) else Pv (j + 1) H6) (hd : ∀ H, Pv n H → Nx H) :
    ∃ W1 : Nat → Nat → Hp → Prop, (∃ m, W1 0 m H4) ∧ ∀ j k H, W1 j k H →
      (J.stop j H ∧ Nx H) ∨ (J.go j H ∧ ∃ Nx1 : Hp → Prop, (∀ H', Nx1 H' → ∃ k', k' < k ∧ W1 (j + 1) k' H') ∧ ∀ x H', J.yld j H x H' → g1 x (wipe σ2 vs1) H' fun σ3 H5 => wipe σ3 vs1 = wipe σ2 vs1 ∧ tt1 σ3 H5 fun b H6 =>
        if b = true then te σ3 H6 fun y H7 => ∃ acc, H7 D = some (.lst acc) ∧ acc.length < sizeLine ∧ Nx1 (upd H7 D (.lst (acc ++ [y]))) else Nx1 H6) := by
  refine ⟨fun i m H => m = n - i ∧ i ≤ n ∧ Pv i H, ⟨n, by simp, Nat.zero_le _, h0⟩, ?_⟩
  rintro i m H ⟨rfl, hi, p⟩
  have q := hG i H hi p
  by_cases hlt : i < n
  · exact .inr ⟨w.goes i H hlt q, Pv (i + 1), fun H' p' => ⟨n - (i + 1), by omega, rfl, hlt, p'⟩, fun x H' y => hs i x H H' hlt p (w.yields i H x H' hlt q y)⟩
  · have e : i = n := by omega
    subst e
    exact .inl ⟨w.stops H q, hd H p⟩
/-! ### what a deed is -/
def isTup : PyData → Bool
  | .tuple _ => true | _ => false
theorem kit_tuple {K : PySem.W.Frag} (d : PyData) : PySem.W.kitOne K (.type (tyOf d)) (.type "tuple") = some (isTup d) := by
  cases d with
  | none => exact kit_ty (show kitB "NoneType" "tuple" = some false by decide +kernel)
  | bool _ => exact kit_ty (show kitB "bool" "tuple" = some false by decide +kernel)
  | int _ => exact kit_ty (show kitB "int" "tuple" = some false by decide +kernel)
  | str _ => exact kit_ty (show kitB "str" "tuple" = some false by decide +kernel)
  | list _ => exact kit_ty (show kitB "list" "tuple" = some false by decide +kernel)
  | tuple _ => exact kit_ty (show kitB "tuple" "tuple" = some true by decide +kernel)
  | dict _ => exact kit_ty (show kitB "dict" "tuple" = some false by decide +kernel)
def cTail (x : PyData) : PyData → Bool
  | .int j => below j x
  | _ => false
def coupleOk (n : Int) (x y : PyData) : Bool := below n y && cTail x y
def cplD (n : Int) : PyData → Bool
  | .tuple [x, y] => coupleOk n x y
  | _ => false
def headOk (n : Int) : PyData → Bool
  | .tuple [x, y, _] => coupleOk n x y
  | _ => false
def deedV (kss : List (List Int)) (a b : Nat) : PyData → Bool
  | .int v => !decide (v = tieN kss a b) && alikeB kss a b
  | _ => false
def deedT (k : Int) (kss : List (List Int)) : PyData → Bool
  | .tuple [.int a, .int b, z] => below k z && deedV kss a.toNat b.toNat z
  | _ => false
def deedB (k : Int) (kss : List (List Int)) (d : PyData) : Bool := headOk kss.length d && deedT k kss d
theorem below_int {k : Int} {d : PyData} (h : below k d = true) : ∃ i : Int, d = .int i ∧ 0 ≤ i ∧ i < k := by
  cases d with
  | int i =>
    have h' : (decide (0 ≤ i) && decide (i < k)) = true := h
    rw [Bool.and_eq_true] at h'
    exact ⟨i, rfl, of_decide_eq_true h'.1, of_decide_eq_true h'.2⟩
  | _ => cases h
theorem below_of {k i : Int} (h0 : 0 ≤ i) (h1 : i < k) : below k (.int i) = true := by
  show (decide (0 ≤ i) && decide (i < k)) = true
  rw [decide_eq_true h0, decide_eq_true h1]
  rfl
theorem couple_nat {n : Int} {x y : PyData} (h : coupleOk n x y = true) : ∃ a b : Nat, x = .int (a : Nat) ∧ y = .int (b : Nat) ∧ a < b ∧ (b : Int) < n := by
  unfold coupleOk at h
  rw [Bool.and_eq_true] at h
  obtain ⟨j, rfl, j0, j1⟩ := below_int h.1
  obtain ⟨i, rfl, i0, i1⟩ := below_int h.2
  exact ⟨i.toNat, j.toNat, by rw [Int.toNat_of_nonneg i0], by rw [Int.toNat_of_nonneg j0], by omega, by omega⟩
theorem head_nat {n : Int} {d : PyData} (h : headOk n d = true) : ∃ (a b : Nat) (z : PyData), d = .tuple [.int (a : Nat), .int (b : Nat), z] ∧ a < b ∧ (b : Int) < n := by
  match d, h with
  | .tuple [x, y, z], h =>
    obtain ⟨a, b, rfl, rfl, h1, h2⟩ := couple_nat (n := n) h
    exact ⟨a, b, z, rfl, h1, h2⟩
theorem deed_nat {k : Int} {kss : List (List Int)} {d : PyData} (h : deedB k kss d = true) : ∃ (a b : Nat) (v : Int), d = .tuple [.int (a : Nat), .int (b : Nat), .int v] ∧ a < b ∧ b < kss.length ∧ 0 ≤ v ∧ v < k ∧ v ≠ tieN kss a b ∧ alikeB kss a b = true := by
  unfold deedB at h
  rw [Bool.and_eq_true] at h
  obtain ⟨a, b, z, rfl, h1, h2⟩ := head_nat h.1
  have h3 : (below k z && deedV kss a b z) = true := h.2
  rw [Bool.and_eq_true] at h3
  obtain ⟨v, rfl, v0, v1⟩ := below_int h3.1
  have h4 : (!decide (v = tieN kss a b) && alikeB kss a b) = true := h3.2
  rw [Bool.and_eq_true] at h4
  exact ⟨a, b, v, rfl, h1, by omega, v0, v1, by simpa using h4.1, h4.2⟩
theorem deed_of {k : Int} {kss : List (List Int)} {a b : Nat} {v : Int} (ab : a < b) (bn : b < kss.length) : deedB k kss (.tuple [.int (a : Nat), .int (b : Nat), .int v]) = (below k (.int v) && (!decide (v = tieN kss a b) && alikeB kss a b)) := by
  unfold deedB
  have : headOk kss.length (.tuple [.int (a : Nat), .int (b : Nat), .int v]) = true := by
    show coupleOk _ _ _ = true
    unfold coupleOk
    rw [below_of (k := (kss.length : Nat)) (i := (b : Nat)) (by omega) (by omega)]
    exact below_of (k := (b : Nat)) (i := (a : Nat)) (by omega) (by omega)
  rw [this]
  rfl
/-- a deed done -/
def doD (kss : List (List Int)) : PyData → List (List Int)
  | .tuple [.int a, .int b, .int v] => setT kss b.toNat a.toNat v
  | _ => kss
def followK (k : Int) : List (List Int) → List PyData → Nat → List (List Int) × Nat
  | kss, [], i => (kss, i)
  | kss, d :: ds, i => if deedB k kss d then followK k (doD kss d) ds (i + 1) else (kss, i)
theorem deed_step {k : Int} {kss : List (List Int)} {d : PyData} (h : deedB k kss d = true) : Step k kss (doD kss d) := by
  obtain ⟨a, b, v, rfl, ab, bn, v0, v1, _, al⟩ := deed_nat h
  exact ⟨a, b, v, ab, bn, al, v0, v1, rfl⟩
theorem follow_cons (k : Int) (kss : List (List Int)) (d : PyData) (ds : List PyData) (i : Nat) : followK k kss (d :: ds) i = if deedB k kss d then followK k (doD kss d) ds (i + 1) else (kss, i) := rfl
theorem follow_fine {k : Int} : ∀ {ds : List PyData} {kss : List (List Int)} {i : Nat}, Fine k kss → Fine k (followK k kss ds i).1 ∧ (followK k kss ds i).1.length = kss.length
  | [], kss, i, f => ⟨f, rfl⟩
  | d :: ds, kss, i, f => by
    rw [follow_cons]
    cases h : deedB k kss d with
    | false => exact ⟨f, rfl⟩
    | true =>
      have st := deed_step h
      obtain ⟨x, y⟩ := follow_fine (ds := ds) (i := i + 1) (st.fine f)
      rw [if_pos rfl]
      exact ⟨x, y.trans st.len⟩
/-- the table of ties, with one put -/
theorem Mat.tie {H : Hp} {m ra rb : Addr} {ps : List Addr} {k v : Int} {kss : List (List Int)} {a b : Nat} (M : Mat H m ps kss.length (tieV kss)) (f : Fine k kss) (ab : a < b) (bn : b < kss.length) (ha : ps[a]? = some ra) (hb : ps[b]? = some rb) :
    ∃ ya yb : List V, H ra = some (.lst ya) ∧ ya.length = kss.length ∧ (upd H ra (.lst (ya.set b (.int v)))) rb = some (.lst yb) ∧ yb.length = kss.length ∧ Mat (upd (upd H ra (.lst (ya.set b (.int v)))) rb (.lst (yb.set a (.int v)))) m ps (setT kss b a v).length (tieV (setT kss b a v)) := by
  have M1 := M.set (v := .int v) ha bn
  have hrb := M1.row b rb hb
  refine ⟨_, _, M.row a ra ha, by rw [List.length_map, List.length_range], hrb, by rw [List.length_map, List.length_range], ?_⟩
  have M2 := M1.set (v := .int v) hb (by omega : a < kss.length)
  rw [setT_len]
  refine M2.congr fun i j hi hj => ?_
  unfold tieV
  rw [tie_setT f ab bn]
  by_cases c1 : i = b ∧ j = a
  · obtain ⟨rfl, rfl⟩ := c1
    rw [if_pos ⟨rfl, rfl⟩, if_neg (by omega), if_pos (by omega)]
  · rw [if_neg c1]
    by_cases c2 : i = a ∧ j = b
    · obtain ⟨rfl, rfl⟩ := c2
      rw [if_pos ⟨rfl, rfl⟩, if_neg (by omega), if_pos (by omega)]
    · rw [if_neg c2, if_neg (by omega : ¬ (max i j = b ∧ min i j = a))]
def spCoupleD (K : PySem.W.Frag) : Sp := fun vs H Q _ => ∃ (n : Int) (x : V) (d : PyData), vs = [.int n, x] ∧ Dt K H x d ∧ Q (.bl (cplD n d)) H
def spDeedNow (K : PySem.W.Frag) : Sp := fun vs H Q _ => ∃ (k : Int) (m : Addr) (x : V) (d : PyData) (ps : List Addr) (kss : List (List Int)), vs = [.int k, .ref m, x] ∧ Mat H m ps kss.length (tieV kss) ∧ kss.length ≤ 40 ∧ Dt K H x d ∧ ∀ H', Same H H' → Q (.bl (deedB k kss d)) H'
def spCompWith : Sp := fun vs H Q _ => ∃ (m : Addr) (ps : List Addr) (kss : List (List Int)) (k : Int), vs = [.ref m] ∧ Mat H m ps kss.length (tieV kss) ∧ Fine k kss ∧ kss.length ≤ 100 ∧ ∀ (c : Addr) (rs : List Addr) (H' : Hp), Same H H' → H c = none → Objs H H' c rs kss.length (fun i => .lst ((kss.getD i []).map V.int)) → Q (.ref c) H'
def spFollowed (K : PySem.W.Frag) : Sp := fun vs H Q _ => ∃ (k : Int) (c r : Addr) (rs : List Addr) (kss : List (List Int)) (xs : List V) (ds : List PyData), vs = [.int k, .ref c, .ref r] ∧ Tab H c rs kss ∧ Fine k kss ∧ kss.length ≤ 40 ∧ H r = some (.lst xs) ∧ Dts K H xs ds ∧ xs.length ≤ 100000 ∧
  ∀ (T p : Addr) (ps : List Addr) (H' : Hp), Same H H' → H' T = some (.tup [.ref p, .int ((followK k kss ds 0).2 : Nat)]) → Tab H' p ps (followK k kss ds 0).1 → H p = none → p ∉ ps → (∀ r ∈ ps, H r = none) → Q (.ref T) H'
end GL
namespace GL
open PySem PySem.Spec PyProof.Rows L2
/-- threes of people and a kind, as data -/
abbrev DeedT := Addr × Nat × Nat × Int
def deedV3 (c : Nat × Nat × Int) : List V := [.int (c.1 : Nat), .int (c.2.1 : Nat), .int c.2.2]
def deedP (c : Nat × Nat × Int) : PyData := .tuple [.int (c.1 : Nat), .int (c.2.1 : Nat), .int c.2.2]
structure Deeds (H0 H : Hp) (a : Addr) (ts : List DeedT) : Prop where
  top : H a = some (.lst (ts.map fun t => V.ref t.1))
  row : ∀ t ∈ ts, H t.1 = some (.tup (deedV3 t.2))
  new : ∀ t ∈ ts, H0 t.1 = none
theorem Deeds.same {H0 H H' : Hp} {a : Addr} {ts : List DeedT} (r : Deeds H0 H a ts) (s : Same H H') : Deeds H0 H' a ts := ⟨s _ _ r.top, fun t ht => s _ _ (r.row t ht), r.new⟩
theorem Deeds.back {H0 H1 H : Hp} {a : Addr} {ts : List DeedT} (r : Deeds H1 H a ts) (s : Same H0 H1) : Deeds H0 H a ts := ⟨r.top, r.row, fun t ht => s.free (r.new t ht)⟩
theorem Deeds.push {H0 H H' : Hp} {D p : Addr} {ts : List DeedT} {c : Nat × Nat × Int} (R : Deeds H0 H D ts) (s : Same H H') (hp : H p = none) (h0 : H0 p = none) (f : H' p = some (.tup (deedV3 c))) : Deeds H0 (upd H' D (.lst ((ts.map fun t => V.ref t.1) ++ [V.ref p]))) D (ts ++ [(p, c)]) := by
  have Dp : D ≠ p := ne_of_none R.top hp
  refine ⟨by rw [upd_same, List.map_append]; rfl, fun u hu => ?_, fun u hu => ?_⟩
  · rcases List.mem_append.mp hu with hu | hu
    · have h0 := R.row u hu
      rw [upd_ne (ne_of h0 R.top (by intro z; cases z))]
      exact s _ _ h0
    · rw [List.mem_singleton] at hu
      subst hu
      show upd H' D _ p = _
      rw [upd_ne Dp.symm]
      exact f
  · rcases List.mem_append.mp hu with hu | hu
    · exact R.new u hu
    · rw [List.mem_singleton] at hu
      subst hu
      exact h0
theorem Deeds.dt {K : PySem.W.Frag} {H0 H : Hp} {a : Addr} {ts : List DeedT} (R : Deeds H0 H a ts) : Dt K H (.ref a) (.list ((ts.map (·.2)).map deedP)) := by
  refine .lst R.top ?_
  have g : ∀ us : List DeedT, (∀ t ∈ us, t ∈ ts) → Dts K H (us.map fun t => V.ref t.1) ((us.map (·.2)).map deedP) := fun us => by
    induction us with
    | nil => exact fun _ => .nil
    | cons u us ih => exact fun h => .cons (.tup (R.row u (h u (List.mem_cons_self ..))) (.cons (.int _) (.cons (.int _) (.cons (.int _) .nil)))) (ih fun t ht => h t (List.mem_cons_of_mem _ ht))
  exact g ts fun _ h => h
/-- the deeds of one couple, of the first j kinds -/
def kindsOf (kss : List (List Int)) (c : Nat × Nat) (j : Nat) : List (Nat × Nat × Int) := ((List.range j).filter fun (v : Nat) => !decide ((v : Int) = tieN kss c.2 c.1)).map fun (v : Nat) => (c.1, c.2, (v : Int))
def deedsL (k : Int) (kss : List (List Int)) : List (Nat × Nat × Int) := ((cplTo kss.length kss.length).filter fun c => alikeB kss c.1 c.2).flatMap fun c => kindsOf kss c k.toNat
def deedsP (k : Int) (kss : List (List Int)) : PyData := .list ((deedsL k kss).map deedP)
theorem kinds_more (kss : List (List Int)) (c : Nat × Nat) (j : Nat) : kindsOf kss c (j + 1) = kindsOf kss c j ++ (if (!decide ((j : Int) = tieN kss c.2 c.1)) then [(c.1, c.2, (j : Int))] else []) := by
  unfold kindsOf
  rw [List.range_succ, List.filter_append, List.map_append]
  congr 1
  cases h : (!decide ((j : Int) = tieN kss c.2 c.1)) <;> simp [h]
theorem kinds_len (kss : List (List Int)) (c : Nat × Nat) (j : Nat) : (kindsOf kss c j).length ≤ j := by
  unfold kindsOf
  rw [List.length_map]
  have := List.length_filter_le (fun v : Nat => !decide ((v : Int) = tieN kss c.2 c.1)) (List.range j)
  rw [List.length_range] at this
  exact this
def spDeeds : Sp := fun vs H Q _ => ∃ (k : Int) (c : Addr) (rs : List Addr) (kss : List (List Int)), vs = [.int k, .ref c] ∧ 2 ≤ k ∧ k ≤ 9 ∧ Tab H c rs kss ∧ Fine k kss ∧ 1 ≤ kss.length ∧ kss.length ≤ 40 ∧
  ∀ (p : Addr) (ts : List DeedT) (H' : Hp), Same H H' → H p = none → Deeds H H' p ts → ts.map (·.2) = deedsL k kss → Q (.ref p) H'
def spIsDeed (K : PySem.W.Frag) : Sp := fun vs H Q _ => ∃ (k : Int) (c : Addr) (x : V) (d : PyData) (rs : List Addr) (kss : List (List Int)), vs = [.int k, .ref c, x] ∧ 2 ≤ k ∧ k ≤ 9 ∧ Tab H c rs kss ∧ Fine k kss ∧ 1 ≤ kss.length ∧ kss.length ≤ 40 ∧ Dt K H x d ∧ ∀ H', Same H H' → Q (.bl (deedB k kss d)) H'
def spDone (K : PySem.W.Frag) : Sp := fun vs H Q _ => ∃ (k : Int) (c : Addr) (x : V) (d : PyData) (rs : List Addr) (kss : List (List Int)), vs = [.int k, .ref c, x] ∧ 2 ≤ k ∧ k ≤ 9 ∧ Tab H c rs kss ∧ Fine k kss ∧ 1 ≤ kss.length ∧ kss.length ≤ 40 ∧ Dt K H x d ∧ deedB k kss d = true ∧
  ∀ (p : Addr) (ps : List Addr) (H' : Hp), Same H H' → Tab H' p ps (doD kss d) → H p = none → p ∉ ps → (∀ r ∈ ps, H r = none) → Q (.ref p) H'
def roadOk (k : Int) (kss : List (List Int)) (ds : List PyData) : Bool := decide ((followK k kss ds 0).2 = ds.length)
def spLedP (K : PySem.W.Frag) : Sp := fun vs H Q _ => ∃ (k : Int) (c r : Addr) (rs : List Addr) (kss : List (List Int)) (xs : List V) (ds : List PyData), vs = [.int k, .ref c, .ref r] ∧ 2 ≤ k ∧ k ≤ 9 ∧ Tab H c rs kss ∧ Fine k kss ∧ 1 ≤ kss.length ∧ kss.length ≤ 40 ∧ H r = some (.lst xs) ∧ Dts K H xs ds ∧ xs.length ≤ 100000 ∧ (followK k kss ds 0).2 = ds.length ∧
  ∀ (p : Addr) (ps : List Addr) (H' : Hp), Same H H' → Tab H' p ps (followK k kss ds 0).1 → H p = none → p ∉ ps → (∀ r ∈ ps, H r = none) → Q (.ref p) H'
def roadD (k : Int) (kss : List (List Int)) : PyData → Bool
  | .list ds => roadOk k kss ds
  | _ => false
def spIsRoad (K : PySem.W.Frag) : Sp := fun vs H Q _ => ∃ (k : Int) (c : Addr) (x : V) (d : PyData) (rs : List Addr) (kss : List (List Int)), vs = [.int k, .ref c, x] ∧ 2 ≤ k ∧ k ≤ 9 ∧ Tab H c rs kss ∧ Fine k kss ∧ 1 ≤ kss.length ∧ kss.length ≤ 40 ∧ Dt K H x d ∧ (∀ ds, d = .list ds → ds.length ≤ 100000) ∧ ∀ H', Same H H' → Q (.bl (roadD k kss d)) H'
end GL

namespace K03
open PySem PySem.Spec PyProof.Rows
open L2
open GL
def topS (i : Nat) : Stmt := PySem.Challenge.pw_twinties_k03_whole_deeds_and_roads.main.body.getD i (.Pass ⟨0, 0, 0, 0⟩)
section
variable {P : Program} {w : World} {K : PySem.W.Frag} {mg : Str → Option Value} {base : Heap}
abbrev sHash : Stmt := topS 44
abbrev sRandom : Stmt := topS 45
abbrev sCell : Stmt := topS 46
abbrev sGen : Stmt := topS 47
theorem scHash : FnScope ["_law_seed", "_law_index", "_law_mixed"] ["_law_seed", "_law_index"] (defScope sHash) := ⟨rfl, rfl, rfl, by decide +kernel, rfl, by decide +kernel, by decide +kernel⟩
theorem ok_hash {f : Addr} {fd : FuncData} (F : Fun K "_law_hash" "_law_hash" sHash f fd) (T : Bi mg) : FnOk P w K mg base CX0 1 f fd ["_law_seed", "_law_index"] spHash := by
  refine F.ok scHash (fun vs H Q E h => ?_) (fun cdv A outer s H vs Q E hr h => ?_)
  · obtain ⟨b, c, rfl, _⟩ := h
    rfl
  · obtain ⟨b, c, rfl, hb0, hb1, hc0, hc1, q⟩ := h
    refine ⟨_, pss_cons (ps_set (i := 2) scHash.nd rfl (Or.inl rfl) (pe_op op_mod (pe_callTy call_int1 (by rfl) T.int PyProof.Rows.boot_int (pa_cons
        (pe_op op_add (pe_op op_add (pe_op op_add (pe_op op_mul (pv 0) pe_int) (pe_op op_mul (pe_op op_mul pe_int (pv 1)) (pv 1))) (pe_op op_mul pe_int (pv 1))) pe_int) pa_nil)) pe_int))
      (pss_cons (ps_set (i := 2) scHash.nd rfl (Or.inl rfl) (pe_op op_mod (pe_callTy call_int1 (by rfl) T.int PyProof.Rows.boot_int (pa_cons
        (pe_op op_add (pe_op op_add (pe_op op_mul (pv 2) (pv 2)) (pe_op op_mul pe_int (pv 1))) pe_int) pa_nil)) pe_int))
      (pss_one (ps_ret (pe_op op_mod (pe_callTy call_int1 (by rfl) T.int PyProof.Rows.boot_int (pa_cons (pe_op op_mul (pv 2) pe_int) pa_nil)) pe_int)))), ?_⟩
    refine ⟨_, rfl, _, _, rfl, rfl, .inl ⟨by omega, by omega⟩, _, rfl, _, _, rfl, rfl, .inl ⟨by omega, by omega⟩, _, rfl, _, _, rfl, rfl, .inr ⟨by omega, by omega⟩, _, _, rfl, rfl, _, rfl, _, _, rfl, rfl, .inl ⟨by omega, by omega⟩, _, _, rfl, rfl, _, _, rfl, rfl,
      .inl ⟨_, rfl, _, _, rfl, rfl, (by show (0 : Int) < 2147483629; decide), ?_⟩⟩
    generalize hm : (b * 1140671 + 27644437 * c * c + 131 * c + 19) % 2147483629 = m
    have m0 : 0 ≤ m := by rw [← hm]; exact Int.emod_nonneg _ (by decide)
    have m1 : m < 2147483629 := by rw [← hm]; exact Int.emod_lt_of_pos _ (by decide)
    refine ⟨_, rfl, _, rfl, _, _, rfl, rfl, .inl ⟨by omega, by omega⟩, _, rfl, _, _, rfl, rfl, .inl ⟨by omega, by omega⟩, _, _, rfl, rfl, _, _, rfl, rfl,
      .inl ⟨_, rfl, _, _, rfl, rfl, (by show (0 : Int) < 2147483587; decide), ?_⟩⟩
    generalize hn : (m * m + 62089 * c + 32416187) % 2147483587 = n
    have n0 : 0 ≤ n := by rw [← hn]; exact Int.emod_nonneg _ (by decide)
    have n1 : n < 2147483587 := by rw [← hn]; exact Int.emod_lt_of_pos _ (by decide)
    refine ⟨_, rfl, _, _, rfl, rfl, .inl ⟨by omega, by omega⟩, .inl ⟨_, rfl, _, _, rfl, rfl, (by show (0 : Int) < 2147483647; decide), ?_⟩⟩
    exact q _ (Int.emod_nonneg _ (by decide)) (Int.emod_lt_of_pos _ (by decide))
theorem scRandom : FnScope ["_law_generator_here", "_law_bound", "_law_drawn", "_law_turn"] ["_law_generator_here", "_law_bound"] (defScope sRandom) := ⟨rfl, rfl, rfl, by decide +kernel, rfl, by decide +kernel, by decide +kernel⟩
theorem ok_random {f : Addr} {fd : FuncData} (F : Fun K "_law_random" "_law_random" sRandom f fd) (T : Bi mg) (UH : Use P w K mg base "_law_hash" ["_law_seed", "_law_index"] spHash 1) : FnOk P w K mg base CX0 2 f fd ["_law_generator_here", "_law_bound"] spRandom := by
  refine F.ok scRandom (fun vs H Q E h => ?_) (fun cdv A outer s H vs Q E hr h => ?_)
  · obtain ⟨g, m, n, rfl, _⟩ := h
    rfl
  · obtain ⟨g, m, n, rfl, m0, m1, G, q⟩ := h
    refine ⟨_, pss_cons (ps_if (pt_cmpR op_gt (pe_ix ix_list (pv 0) pe_int (fun _ _ => rfl)) pe_int (nomark _))
        (pss_cons (ps_set (i := 2) scRandom.nd rfl (Or.inl rfl) (pe_op op_mod (pe_callTy call_int1 (by rfl) T.int PyProof.Rows.boot_int (pa_cons (pe_ix ix_list (pv 0) pe_int (fun _ _ => rfl)) pa_nil)) (pv 1)))
        (pss_cons (ps_asg (pe_op op_fdivW (pe_ix ix_list (pv 0) pe_int (fun _ _ => rfl)) (pv 1)) (pg_sub (pv 0) pe_int set_list))
        (pss_one (ps_ret (pv 2))))) pss_nil)
      (pss_cons (ps_set (i := 2) scRandom.nd rfl (Or.inl rfl) pe_int)
      (pss_cons (ps_for PassesOwn.never rfl (pi_range1 (by rfl) T.range (pa_cons (pe_op op_add pe_int (pe_op op_fdiv (pe_bits (pv 1)) pe_int)) pa_nil)) (pg_name (i := 3) scRandom.nd rfl (Or.inl rfl))
        (pss_cons (ps_asg (pe_op op_add (pe_ix ix_list (pv 0) pe_int (fun _ _ => rfl)) pe_int) (pg_sub (pv 0) pe_int set_list))
        (pss_one (ps_set (i := 2) scRandom.nd rfl (Or.inl rfl) (pe_op op_add (pe_op op_mul (pv 2) pe_int)
          (pe_use UH hr (by rfl) (pa_cons (pe_ix ix_list (pv 0) pe_int (fun _ _ => rfl)) (pa_cons (pe_ix ix_list (pv 0) pe_int (fun _ _ => rfl)) pa_nil))))))))
      (pss_one (ps_ret (pe_op op_mod (pe_callTy call_int1 (by rfl) T.int PyProof.Rows.boot_int (pa_cons (pv 2) pa_nil)) (pv 1)))))), ?_⟩
    obtain ⟨a, b, c, hg, b0, b1, c0, c1⟩ := G
    refine ⟨_, rfl, g, _, _, _, rfl, rfl, SqL.of hg, at_of (j := 0) rfl rfl, _, _, rfl, rfl, _, rfl, ?_⟩
    by_cases ha : 0 < a
    · refine ite2 (fun _ => ?_) (fun z => absurd (decide_eq_true ha) z)
      refine ⟨_, rfl, g, _, _, _, rfl, rfl, SqL.of hg, at_of (j := 0) rfl rfl, .inl ⟨_, rfl, _, rfl, _, _, rfl, rfl, m0, ?_⟩⟩
      refine ⟨_, rfl, g, _, _, _, rfl, rfl, SqL.of hg, at_of (j := 0) rfl rfl, _, rfl, _, _, rfl, rfl, wide_div (b := 120) m0 (by omega) (by decide) (by decide), _, rfl, g, _, _, 0, rfl, rfl, hg, rfl, ?_⟩
      refine ⟨_, rfl, q _ _ (Int.emod_nonneg _ (by omega)) (Int.emod_lt_of_pos _ m0) ⟨_, b, c, upd_same, b0, b1, c0, by omega⟩ But.put⟩
    · refine ite2 (fun z => absurd (of_decide_eq_true z) ha) (fun _ => ?_)
      obtain ⟨u1, u0⟩ := bits_le m0 m1
      generalize hu : (Builtin.Int.intBits m : Int) / 30 = u at u0 u1
      refine ⟨_, rfl, _, rfl, _, _, rfl, rfl, ⟨by decide, by decide⟩, _, _, rfl, rfl, 1 + u, by rw [hu], by omega, by omega,
        for_range (lo := 0) (n := (1 + u).toNat) (fun i σ H' => ∃ (d : Int) (t : Option V) (c' : Int), σ = [some (.ref g), some (.int m), some (.int d), t] ∧ But g H H' ∧ H' g = some (.lst [.int a, .int b, .int c']) ∧ c ≤ c' ∧ c' ≤ c + i)
        ⟨0, none, c, rfl, But.refl, hg, by omega, by omega⟩ ?_ ?_⟩
      · rintro i σ H' hi ⟨d, t, c', rfl, bt, hg', c2, c3⟩
        refine ⟨_, rfl, g, _, _, _, rfl, rfl, SqL.of hg', at_of (j := 2) rfl rfl, _, _, rfl, rfl, _, rfl, g, _, _, 2, rfl, rfl, hg', rfl, ?_⟩
        refine ⟨_, rfl, _, _, rfl, rfl, .inr ⟨by decide, by decide⟩, _, rfl, g, _, _, _, rfl, rfl, SqL.of upd_same, at_of (j := 1) rfl rfl, _, rfl, g, _, _, _, rfl, rfl, SqL.of upd_same, at_of (j := 2) rfl rfl,
          b, c' + 1, rfl, b0, b1, by omega, by omega, fun r r0 r1 => ⟨_, _, rfl, rfl, ?_⟩⟩
        exact ⟨_, _, c' + 1, rfl, bt.trans But.put, upd_same, by omega, by omega⟩
      · rintro σ H' ⟨d, t, c', rfl, bt, hg', c2, c3⟩
        refine ⟨_, rfl, .inl ⟨_, rfl, _, rfl, _, _, rfl, rfl, m0, ?_⟩⟩
        exact q _ _ (Int.emod_nonneg _ (by omega)) (Int.emod_lt_of_pos _ m0) ⟨a, b, c', hg', b0, b1, by omega, by omega⟩ bt
theorem scCell : FnScope ["_law_script", "_law_index"] ["_law_script", "_law_index"] (defScope sCell) := ⟨rfl, rfl, rfl, by decide +kernel, rfl, by decide +kernel, by decide +kernel⟩
theorem ok_cell {f : Addr} {fd : FuncData} (F : Fun K "_law_cell" "_law_cell" sCell f fd) (T : Bi mg) : FnOk P w K mg base CX0 1 f fd ["_law_script", "_law_index"] (spCell K) := by
  refine F.ok scCell (fun vs H Q E h => ?_) (fun cdv A outer s H vs Q E hr h => ?_)
  · obtain ⟨a, ns, i, rfl, _⟩ := h
    rfl
  · obtain ⟨a, ns, i, rfl, hS, q⟩ := h
    refine ⟨_, pss_cons (ps_if (pt_cmpR op_lt (pv 1) (pe_callB call_len_seq (by rfl) T.len PySem.boot_len (pa_cons (pv 0) pa_nil)) (nomark _)) (pss_one (ps_ret (pe_ix ix_list (pv 0) (pv 1) (fun _ _ => rfl)))) pss_nil)
      (pss_one (ps_ret (pe_op op_mod (pe_callB (cr_sum rfl) (by rfl) T.sum (by decide +kernel) (pa_cons (pe_slice sl_list (pv 0) po_none (po_some pe_int)) pa_nil)) pe_int))), ?_⟩
    refine ⟨_, rfl, _, rfl, a, _, rfl, .inl hS, _, _, rfl, rfl, _, rfl, ite2 (fun c => ?_) (fun c => ?_)⟩
    · have hl := of_decide_eq_true c
      rw [List.length_map] at hl
      have hi : i < ns.length := by omega
      exact ⟨_, rfl, _, rfl, a, _, _, _, rfl, rfl, hS, at_of (j := i) rfl (by rw [List.getElem?_map, List.getElem?_eq_getElem hi]; rfl), q _ _ (Same.refl _)⟩
    · refine ⟨_, rfl, 1, rfl, a, _, rfl, hS, fun c nc => ?_⟩
      obtain ⟨l, el, _⟩ := cut_ints ns none (some 1)
      refine ⟨c, l, rfl, by rw [← el]; exact SqL.of upd_same, _, _, rfl, rfl, (by show (0 : Int) < 1000003; decide), q _ _ (same_new nc)⟩
theorem scGen : FnScope ["_law_script", "_law_index", "_law_seed"] ["_law_script", "_law_index"] (defScope sGen) := ⟨rfl, rfl, rfl, by decide +kernel, rfl, by decide +kernel, by decide +kernel⟩
theorem ok_gen {f : Addr} {fd : FuncData} (F : Fun K "_law_generator" "_law_generator" sGen f fd) (T : Bi mg) (U : Use P w K mg base "_law_cell" ["_law_script", "_law_index"] (spCell K) 1) : FnOk P w K mg base CX0 2 f fd ["_law_script", "_law_index"] (spGen K) := by
  refine F.ok scGen (fun vs H Q E h => ?_) (fun cdv A outer s H vs Q E hr h => ?_)
  · obtain ⟨a, ns, i, rfl, _⟩ := h
    rfl
  · obtain ⟨a, ns, i, rfl, hi, hS, q⟩ := h
    refine ⟨_, pss_cons (ps_set (i := 2) scGen.nd rfl (Or.inl rfl) (pe_use U hr (by rfl) (pa_cons (pv 0) (pa_cons (pv 1) pa_nil))))
      (pss_one (ps_ret (pe_lst (pa_cons (pe_op op_mod (pe_callTy call_int1 (by rfl) T.int PyProof.Rows.boot_int (pa_cons (pe_callB (call_max2 rfl) (by rfl) T.max (by decide +kernel) (pa_cons (pe_op op_sub (pv 2) (pe_op op_pow pe_int pe_int)) (pa_cons pe_int pa_nil))) pa_nil)) (pe_op op_powW (pe_op op_pow pe_int pe_int) pe_int))
        (pa_cons (pe_op op_mod (pe_callTy call_int1 (by rfl) T.int PyProof.Rows.boot_int (pa_cons (pv 2) pa_nil)) pe_int) (pa_cons (pe_op op_mul pe_int (pv 1)) pa_nil)))))), ?_⟩
    refine ⟨_, rfl, _, rfl, a, ns, i, rfl, hS, fun r H1 s1 => ?_⟩
    refine ⟨_, rfl, _, _, rfl, rfl, ⟨by decide, by decide, by decide⟩, _, _, rfl, rfl, _, _, rfl, .inl ⟨_, rfl, _, _, rfl, rfl, ⟨by decide, by decide, by decide⟩, _, _, rfl, rfl, pow60, _, _, rfl, rfl, pow600, ?_⟩⟩
    refine ⟨_, rfl, .inl ⟨_, rfl, _, _, rfl, rfl, (by show (0 : Int) < 2147483647; decide), _, rfl, _, _, rfl, rfl, .inl ⟨by decide, by decide⟩, (by show 3 ≤ sizeLine; decide), fun g hg => ?_⟩⟩
    exact q g _ (s1.trans (same_new hg)) (s1.free hg) ⟨_, _, _, upd_same, Int.emod_nonneg _ (by decide), Int.emod_lt_of_pos _ (by decide), by omega, by omega⟩

abbrev sTie : Stmt := topS 50
theorem scTie : FnScope ["_law_company_here", "_law_one", "_law_other"] ["_law_company_here", "_law_one", "_law_other"] (defScope sTie) := ⟨rfl, rfl, rfl, by decide +kernel, rfl, by decide +kernel, by decide +kernel⟩
theorem ok_tie {f : Addr} {fd : FuncData} (F : Fun K "_law_tie" "_law_tie" sTie f fd) (T : Bi mg) : FnOk P w K mg base CX0 1 f fd ["_law_company_here", "_law_one", "_law_other"] spTie := by
  refine F.ok scTie (fun vs H Q E h => ?_) (fun cdv A outer s H vs Q E hr h => ?_)
  · obtain ⟨c, rs, kss, k, i, j, rfl, _⟩ := h
    rfl
  · obtain ⟨c, rs, kss, k, i, j, rfl, t, fine, hi, hj, ne, q⟩ := h
    refine ⟨_, pss_one (ps_ret (pe_ix ix_list (pe_ix ix_list (pv 0) (pe_callB (call_max2 rfl) (by rfl) T.max (by decide +kernel) (pa_cons (pv 1) (pa_cons (pv 2) pa_nil))) (fun _ _ => rfl)) (pe_callB (call_min2 rfl) (by rfl) T.min (by decide +kernel) (pa_cons (pv 1) (pa_cons (pv 2) pa_nil))) (fun _ _ => rfl))), ?_⟩
    have e1 : (if (j : Int) > (i : Int) then (j : Int) else (i : Int)) = ((max i j : Nat) : Int) := by
      by_cases c : i < j
      · rw [if_pos (by omega), Nat.max_eq_right (by omega)]
      · rw [if_neg (by omega), Nat.max_eq_left (by omega)]
    have e2 : (if (j : Int) < (i : Int) then (j : Int) else (i : Int)) = ((min i j : Nat) : Int) := by
      by_cases c : i < j
      · rw [if_neg (by omega), Nat.min_eq_left (by omega)]
      · by_cases c2 : j < i
        · rw [if_pos (by omega), Nat.min_eq_right (by omega)]
        · omega
    have hm : max i j < kss.length := by omega
    obtain ⟨r, ks, a1, a2, a3⟩ := t.at hm
    obtain ⟨b1, _⟩ := fine _ _ a2
    have hlo : min i j < ks.length := by omega
    have ez : tieN kss i j = ks[min i j] := by
      have eA : kss.getD (max i j) [] = ks := by rw [List.getD_eq_getElem?_getD, a2]; rfl
      unfold tieN
      rw [eA, List.getD_eq_getElem?_getD, List.getElem?_eq_getElem hlo]
      rfl
    rw [ez] at q
    exact ⟨_, rfl, _, rfl, _, rfl, _, _, rfl, c, _, _, _, rfl, rfl, SqL.of t.top, at_of (j := max i j) (v := V.ref r) e1 (by rw [List.getElem?_map, a1]; rfl), _, rfl, _, rfl, _, _, rfl, r, _, _, _, rfl, rfl, SqL.of a3, at_of (j := min i j) (v := V.int ks[min i j]) e2 (by rw [List.getElem?_map, List.getElem?_eq_getElem hlo]; rfl), q⟩

end
end K03

namespace K03
open PySem PySem.Spec PyProof.Rows
open L2
open GL
section
variable {P : Program} {w : World} {K : PySem.W.Frag} {mg : Str → Option Value} {base : Heap}
abbrev sWhole : Stmt := topS 13
abbrev sBelow : Stmt := topS 14
abbrev sKinds : Stmt := topS 15
abbrev sRow : Stmt := topS 16
abbrev sCompOf : Stmt := topS 17
abbrev sCheck : Stmt := topS 21
theorem scWhole : FnScope ["value"] ["value"] (defScope sWhole) := ⟨rfl, rfl, rfl, by decide +kernel, rfl, by decide +kernel, by decide +kernel⟩
theorem ok_whole {f : Addr} {fd : FuncData} (F : Fun K "is_whole" "is_whole" sWhole f fd) (T : Bi mg) : FnOk P w K mg base CX0 1 f fd ["value"] (spWhole K) := by
  refine F.ok scWhole (fun vs H Q E h => ?_) (fun cdv A outer s H vs Q E hr h => ?_)
  · obtain ⟨x, d, rfl, _⟩ := h
    rfl
  · obtain ⟨x, d, rfl, hd, q⟩ := h
    refine ⟨_, pss_one (ps_ret (pe_and (pe_callB call_isi (by rfl) T.isinstance (by decide +kernel) (pa_cons (pv 0) (pa_cons (pe_bltn (v := .ty "int") (by rfl) T.int PyProof.Rows.boot_int rfl) pa_nil)))
      (pe_one (pe_not (pe_callB call_isi (by rfl) T.isinstance (by decide +kernel) (pa_cons (pv 0) (pa_cons (pe_bltn (v := .ty "bool") (by rfl) T.bool (by decide +kernel) rfl) pa_nil))))))), ?_⟩
    refine ⟨_, rfl, _, _, _, _, _, rfl, .ty "int", hd.ty, kit_int d, _, rfl, ?_⟩
    cases e : isInt d with
    | false =>
      refine iteF ?_
      have z : whole d = false := by unfold whole; rw [e]; rfl
      rw [← z]
      exact q
    | true =>
      refine iteT ⟨_, rfl, _, _, _, _, _, rfl, .ty "bool", hd.ty, kit_bool d, _, rfl, ?_⟩
      have z : whole d = !isBool d := by unfold whole; rw [e]; rfl
      rw [← z]
      exact q
theorem scBelow : FnScope ["value", "bound"] ["value", "bound"] (defScope sBelow) := ⟨rfl, rfl, rfl, by decide +kernel, rfl, by decide +kernel, by decide +kernel⟩
theorem ok_below {f : Addr} {fd : FuncData} (F : Fun K "is_below" "is_below" sBelow f fd) (U : Use P w K mg base "is_whole" ["value"] (spWhole K) 1) : FnOk P w K mg base CX0 2 f fd ["value", "bound"] (spBelow K) := by
  refine F.ok scBelow (fun vs H Q E h => ?_) (fun cdv A outer s H vs Q E hr h => ?_)
  · obtain ⟨x, d, k, rfl, _⟩ := h
    rfl
  · obtain ⟨x, d, k, rfl, hd, q⟩ := h
    refine ⟨_, pss_one (ps_ret (pe_and (pe_use U hr (by rfl) (pa_cons (pv 0) pa_nil)) (pe_one (pe_chain op_le op_lt pe_int (pv 0) (pv 1))))), ?_⟩
    refine ⟨_, rfl, _, d, rfl, hd, _, rfl, ?_⟩
    rcases whole_cases d with ⟨i, rfl, e⟩ | ⟨e, z⟩
    · rw [e]
      cases hd
      refine iteT ⟨_, rfl, _, _, rfl, rfl, _, rfl, ?_⟩
      cases c : decide ((0 : Int) ≤ i) with
      | true =>
        refine iteT ⟨_, rfl, _, _, rfl, rfl, ?_⟩
        have z : below k (.int i) = decide (i < k) := by
          show (decide (0 ≤ i) && decide (i < k)) = decide (i < k)
          rw [c, Bool.true_and]
        rw [z] at q
        exact q
      | false =>
        refine iteF ?_
        have z : below k (.int i) = false := by
          show (decide (0 ≤ i) && decide (i < k)) = false
          rw [c, Bool.false_and]
        rw [z] at q
        exact q
    · rw [e]
      refine iteF ?_
      rw [← z k]
      exact q
theorem scKinds : FnScope ["value"] ["value"] (defScope sKinds) := ⟨rfl, rfl, rfl, by decide +kernel, rfl, by decide +kernel, by decide +kernel⟩
theorem ok_kinds {f : Addr} {fd : FuncData} (F : Fun K "are_kinds" "are_kinds" sKinds f fd) (C : Cs mg) (U : Use P w K mg base "is_whole" ["value"] (spWhole K) 1) : FnOk P w K mg base CX0 2 f fd ["value"] (spKinds K) := by
  refine F.ok scKinds (fun vs H Q E h => ?_) (fun cdv A outer s H vs Q E hr h => ?_)
  · obtain ⟨k, rfl, _⟩ := h
    rfl
  · obtain ⟨k, rfl, h2, h9, q⟩ := h
    obtain ⟨t1, c1⟩ := C.least
    obtain ⟨t2, c2⟩ := C.most
    refine ⟨_, pss_one (ps_ret (pe_and (pe_use U hr (by rfl) (pa_cons (pv 0) pa_nil)) (pe_one (pe_chain op_le op_le (pe_glob (v := .int 2) rfl c1 ⟨_, rfl⟩) (pv 0) (pe_glob (v := .int 9) rfl c2 ⟨_, rfl⟩))))), ?_⟩
    refine ⟨_, rfl, _, .int k, rfl, .int k, _, rfl, iteT ⟨_, rfl, _, _, rfl, rfl, _, rfl, ?_⟩⟩
    rw [decide_eq_true h2]
    rw [← decide_eq_true h9] at q
    exact iteT ⟨_, _, rfl, rfl, q⟩
theorem scRow : FnScope ["kinds", "many", "value", "kind"] ["kinds", "many", "value"] (defScope sRow) := ⟨rfl, rfl, rfl, by decide +kernel, rfl, by decide +kernel, by decide +kernel⟩
theorem ok_row {f : Addr} {fd : FuncData} (F : Fun K "is_row" "is_row" sRow f fd) (T : Bi mg) (U : Use P w K mg base "is_below" ["value", "bound"] (spBelow K) 2) : FnOk P w K mg base CX0 3 f fd ["kinds", "many", "value"] (spRow K) := by
  refine F.ok scRow (fun vs H Q E h => ?_) (fun cdv A outer s H vs Q E hr h => ?_)
  · obtain ⟨x, d, k, n, rfl, _⟩ := h
    rfl
  · obtain ⟨x, d, k, n, rfl, hn, hd, q⟩ := h
    refine ⟨_, pss_one (ps_ret (pe_and (pe_callB call_isi (by rfl) T.isinstance (by decide +kernel) (pa_cons (pv 2) (pa_cons (pe_bltn (v := .ty "list") (by rfl) T.list PyProof.Rows.boot_list rfl) pa_nil)))
      (pe_and (pe_cmpR op_eq (pe_callB call_len_seq (by rfl) T.len PySem.boot_len (pa_cons (pv 2) pa_nil)) (pv 1) (nomark _))
      (pe_one (pe_callB (cr_all rfl) (by rfl) T.all (by decide +kernel) (pa_cons (pe_lc (own := [("kind", 3)]) (g := gName 3) (tt := tYes) rfl scRow.nd (pi_list (pv 2)) (blkOk_by (N := ["kinds", "many", "value", "kind"]) (sc := defScope sRow) (by decide +kernel))
        (fun _ _ _ _ _ => pg_name (i := 3) scRow.nd rfl (Or.inl rfl)) (fun _ _ _ _ _ => pts_nil) (fun _ _ _ _ _ => pe_use U hr (by rfl) (pa_cons (pv 3) (pa_cons (pv 0) pa_nil)))) pa_nil)))))), ?_⟩
    refine ⟨_, rfl, _, _, _, _, _, rfl, .ty "list", hd.ty, kit_list d, _, rfl, ?_⟩
    by_cases e : ∃ ds, d = .list ds
    · obtain ⟨ds, rfl⟩ := e
      cases hd with
      | @lst a xs _ ha hs =>
        have hl := hs.length
        refine iteT ⟨_, rfl, a, xs, rfl, .inl (SqL.of ha), _, rfl, rfl, _, rfl, ?_⟩
        rw [hl]
        by_cases c : (ds.length : Int) = n
        · rw [decide_eq_true (congrArg V.int c)]
          refine iteT ⟨_, rfl, a, rfl, ⟨_, SqL.of ha⟩, fun D hD => ?_⟩
          refine lc_list (K := K) (a := a) (xs := xs) (fun i H' => Same H H' ∧ H' D = some (.lst (((ds.take i).map (below k)).map V.bl))) ⟨same_new hD, upd_same⟩ (fun i H' _ z => (z.1).seq (SqL.of ha)) ?_ ?_
          · rintro i y H' hi ⟨s1, hD'⟩
            obtain ⟨dy, e1, d1⟩ := hs.get hi
            refine ⟨rfl, yes_of ?_⟩
            refine ⟨_, rfl, _, rfl, y, dy, k, rfl, Dt.same s1 dy _ d1, _, hD', ?_, ?_, ?_⟩
            · rw [List.length_map, List.length_map, List.length_take]
              exact small1000 (by omega)
            · exact fun b o z => by rw [upd_ne (ne_of_none z hD)]; exact s1 b o z
            · rw [upd_same, take_more (below k) e1, List.map_append]
              rfl
          · rintro H' ⟨s1, hD'⟩
            rw [hl, List.take_length] at hD'
            refine ⟨D, ds.map (below k), rfl, SqL.of hD', ?_⟩
            have z : rowOk k n (.list ds) = (ds.map (below k)).all id := by
              show (decide ((ds.length : Int) = n) && ds.all (below k)) = _
              rw [decide_eq_true c, Bool.true_and, List.all_map]
              rfl
            rw [← z]
            exact q _ s1
        · rw [decide_eq_false (fun z => c (V.int.inj z))]
          refine iteF ?_
          have z : rowOk k n (.list ds) = false := by
            show (decide ((ds.length : Int) = n) && ds.all (below k)) = false
            rw [decide_eq_false c]
            rfl
          rw [← z]
          exact q _ (Same.refl _)
    · have z : isList d = false ∧ rowOk k n d = false := by
        cases d with
        | list ds => exact (e ⟨ds, rfl⟩).elim
        | _ => exact ⟨rfl, rfl⟩
      rw [z.1]
      refine iteF ?_
      rw [← z.2]
      exact q _ (Same.refl _)
theorem scCompOf : FnScope ["kinds", "value", "person", "row"] ["kinds", "value"] (defScope sCompOf) := ⟨rfl, rfl, rfl, by decide +kernel, rfl, by decide +kernel, by decide +kernel⟩
theorem ok_compOf {f : Addr} {fd : FuncData} (F : Fun K "is_company_of" "is_company_of" sCompOf f fd) (T : Bi mg) (C : Cs mg) (U : Use P w K mg base "is_row" ["kinds", "many", "value"] (spRow K) 3) : FnOk P w K mg base CX0 4 f fd ["kinds", "value"] (spCompOf K) := by
  refine F.ok scCompOf (fun vs H Q E h => ?_) (fun cdv A outer s H vs Q E hr h => ?_)
  · obtain ⟨x, d, k, rfl, _⟩ := h
    rfl
  · obtain ⟨x, d, k, rfl, hd, q⟩ := h
    obtain ⟨t3, c3⟩ := C.people
    refine ⟨_, pss_cons (ps_if (PW.pt (pw_or (pt_not (pt_val (pe_callB call_isi (by rfl) T.isinstance (by decide +kernel) (pa_cons (pv 1) (pa_cons (pe_bltn (v := .ty "list") (by rfl) T.list PyProof.Rows.boot_list rfl) pa_nil)))))
        (pw_or1 (pt_not (pt_chain op_le op_le pe_int (pe_callB call_len_seq (by rfl) T.len PySem.boot_len (pa_cons (pv 1) pa_nil)) (pe_glob (v := .int 40) rfl c3 ⟨_, rfl⟩)))))) (pss_one (ps_ret pe_bl)) pss_nil)
      (pss_one (ps_ret (pe_callB (cr_all rfl) (by rfl) T.all (by decide +kernel) (pa_cons (pe_lc (own := [("person", 2), ("row", 3)]) (g := gTup K 2 (gCons (gName 2) (gCons (gName 3) gNil))) (tt := tYes) rfl scCompOf.nd (pi_enum (by rfl) T.enumerate (pa_cons (pv 1) pa_nil))
        (blkOk_by (N := ["kinds", "value", "person", "row"]) (sc := defScope sCompOf) (by decide +kernel)) (fun _ _ _ _ _ => pg_tup rfl (pgs_cons (pg_name (i := 2) scCompOf.nd rfl (Or.inl rfl)) (pgs_cons (pg_name (i := 3) scCompOf.nd rfl (Or.inl rfl)) pgs_nil)))
        (fun _ _ _ _ _ => pts_nil) (fun _ _ _ _ _ => pe_use U hr (by rfl) (pa_cons (pv 0) (pa_cons (pv 2) (pa_cons (pv 3) pa_nil))))) pa_nil)))), ?_⟩
    refine ⟨_, rfl, _, _, _, _, _, rfl, .ty "list", hd.ty, kit_list d, _, rfl, ?_⟩
    by_cases e : ∃ ds, d = .list ds
    · obtain ⟨ds, rfl⟩ := e
      cases hd with
      | @lst a xs _ ha hs =>
        have hl := hs.length
        refine iteF ⟨_, rfl, a, xs, rfl, .inl (SqL.of ha), _, _, rfl, rfl, _, rfl, ?_⟩
        rw [hl]
        by_cases c1 : (1 : Int) ≤ (ds.length : Int)
        · rw [decide_eq_true c1]
          refine iteT ⟨_, _, rfl, rfl, _, rfl, ?_⟩
          by_cases c2 : (ds.length : Int) ≤ 40
          · rw [decide_eq_true c2]
            refine iteF ⟨_, rfl, a, xs, rfl, SqL.of ha, fun D hD => ?_⟩
            refine lc_it (walk_enum (K := K) (a := a) (xs := xs)) (fun i H' => Same H H' ∧ H' D = some (.lst (((List.range i).map fun j => rowOk k ((0 + j : Nat) : Int) (ds.getD j .none)).map V.bl))) ⟨same_new hD, upd_same⟩ (fun i H' _ z => (z.1).seq (SqL.of ha)) ?_ ?_
            · rintro i y H' H'' hi ⟨s1, hD'⟩ ⟨T, x1, x2, rfl, nT, rfl, e1, e2⟩
              have e1' : x1 = .int (i : Nat) := (Option.some.inj e1).symm
              subst e1'
              obtain ⟨dy, f1, f2⟩ := hs.get e2
              have s2 := s1.trans (same_new (o := .tup [.int (i : Nat), x2]) nT)
              have ne : D ≠ T := ne_of_none hD' nT
              refine ⟨T, [.int (i : Nat), x2], rfl, SqT.of upd_same, rfl, _, _, rfl, _, _, rfl, rfl, rfl, yes_of ?_⟩
              refine ⟨_, rfl, _, rfl, _, rfl, x2, dy, k, i, rfl, by omega, Dt.same s2 dy _ f2, fun H3 s3 => ⟨_, s3 D _ (by rw [upd_ne ne]; exact hD'), ?_, ?_, ?_⟩⟩
              · rw [List.length_map, List.length_map, List.length_range]
                exact small1000 (by omega)
              · exact fun b o z => by rw [upd_ne (ne_of_none z hD)]; exact s3 b o (s2 b o z)
              · rw [upd_same, all_range_more]
                have ez : (0 + i : Nat) = i := Nat.zero_add i
                have eg : ds.getD i .none = dy := by rw [List.getD_eq_getElem?_getD, f1]; rfl
                rw [ez, eg]
            · rintro H' ⟨s1, hD'⟩
              refine ⟨D, _, rfl, SqL.of hD', ?_⟩
              rw [hl, ← rowsOk_all]
              have z : compOk k (.list ds) = rowsOk k 0 ds := by
                show ((decide (1 ≤ ds.length) && decide (ds.length ≤ 40)) && rowsOk k 0 ds) = _
                rw [decide_eq_true (by omega : 1 ≤ ds.length), decide_eq_true (by omega : ds.length ≤ 40)]
                rfl
              rw [← z]
              exact q _ s1
          · rw [decide_eq_false c2]
            refine iteT ?_
            have z : compOk k (.list ds) = false := by
              show ((decide (1 ≤ ds.length) && decide (ds.length ≤ 40)) && rowsOk k 0 ds) = _
              rw [decide_eq_false (by omega : ¬ ds.length ≤ 40), Bool.and_false, Bool.false_and]
            have q' := q _ (Same.refl _)
            rw [z] at q'
            exact q'
        · rw [decide_eq_false c1]
          refine iteF ⟨_, rfl, iteT ?_⟩
          have z : compOk k (.list ds) = false := by
            show ((decide (1 ≤ ds.length) && decide (ds.length ≤ 40)) && rowsOk k 0 ds) = _
            rw [decide_eq_false (by omega : ¬ 1 ≤ ds.length), Bool.false_and, Bool.false_and]
          have q' := q _ (Same.refl _)
          rw [z] at q'
          exact q'
    · have z : isList d = false ∧ compOk k d = false := by
        cases d with
        | list ds => exact (e ⟨ds, rfl⟩).elim
        | _ => exact ⟨rfl, rfl⟩
      rw [z.1]
      refine iteT ?_
      have q' := q _ (Same.refl _)
      rw [z.2] at q'
      exact q'
abbrev sCheckC : Stmt := topS 22
theorem scCheck : FnScope ["kinds"] ["kinds"] (defScope sCheck) := ⟨rfl, rfl, rfl, by decide +kernel, rfl, by decide +kernel, by decide +kernel⟩
theorem ok_check {f : Addr} {fd : FuncData} (F : Fun K "check_kinds" "check_kinds" sCheck f fd) (U : Use P w K mg base "are_kinds" ["value"] (spKinds K) 2) : FnOk P w K mg base CX0 3 f fd ["kinds"] spCheck := by
  refine F.ok scCheck (fun vs H Q E h => ?_) (fun cdv A outer s H vs Q E hr h => ?_)
  · obtain ⟨k, rfl, _⟩ := h
    rfl
  · obtain ⟨k, rfl, h2, h9, q⟩ := h
    refine ⟨_, pss_one (ps_if (pt_not (pt_val (pe_use U hr (by rfl) (pa_cons (pv 0) pa_nil)))) (pss_one ps_never) pss_nil), ?_⟩
    exact ⟨_, rfl, k, rfl, h2, h9, _, rfl, iteF q⟩
theorem scCheckC : FnScope ["kinds", "company"] ["kinds", "company"] (defScope sCheckC) := ⟨rfl, rfl, rfl, by decide +kernel, rfl, by decide +kernel, by decide +kernel⟩
theorem ok_checkC {f : Addr} {fd : FuncData} (F : Fun K "check_company" "check_company" sCheckC f fd) (U : Use P w K mg base "check_kinds" ["kinds"] spCheck 3) (V : Use P w K mg base "is_company_of" ["kinds", "value"] (spCompOf K) 4) : FnOk P w K mg base CX0 5 f fd ["kinds", "company"] (spCheckC K) := by
  refine F.ok scCheckC (fun vs H Q E h => ?_) (fun cdv A outer s H vs Q E hr h => ?_)
  · obtain ⟨k, x, d, rfl, _⟩ := h
    rfl
  · obtain ⟨k, x, d, rfl, h2, h9, hd, ok, q⟩ := h
    refine ⟨_, pss_cons (ps_expr (pe_use U (hr.mono (by decide)) (by rfl) (pa_cons (pv 0) pa_nil))) (pss_one (ps_if (pt_not (pt_val (pe_use V hr (by rfl) (pa_cons (pv 0) (pa_cons (pv 1) pa_nil))))) (pss_one ps_never) pss_nil)), ?_⟩
    refine ⟨_, rfl, k, rfl, h2, h9, _, rfl, _, rfl, x, d, k, rfl, hd, fun H' s' => ⟨_, rfl, ?_⟩⟩
    rw [ok]
    exact iteF (q _ s')

abbrev sCheckCs : Stmt := topS 23
theorem scCheckCs : FnScope ["kinds", "one", "other"] ["kinds", "one", "other"] (defScope sCheckCs) := ⟨rfl, rfl, rfl, by decide +kernel, rfl, by decide +kernel, by decide +kernel⟩
theorem ok_checkCs {f : Addr} {fd : FuncData} (F : Fun K "check_companies" "check_companies" sCheckCs f fd) (T : Bi mg) (U : Use P w K mg base "check_company" ["kinds", "company"] (spCheckC K) 5) (V : Use P w K mg base "is_company_of" ["kinds", "value"] (spCompOf K) 4) : FnOk P w K mg base CX0 6 f fd ["kinds", "one", "other"] spCheckCs := by
  refine F.ok scCheckCs (fun vs H Q E h => ?_) (fun cdv A outer s H vs Q E hr h => ?_)
  · obtain ⟨k, c, d, rs, ps, kss, lss, rfl, _⟩ := h
    rfl
  · obtain ⟨k, c, d, rs, ps, kss, lss, rfl, k2, k9, t, u, f1, f2, m1, m40, e, q⟩ := h
    refine ⟨_, pss_cons (ps_expr (pe_use U hr (by rfl) (pa_cons (pv 0) (pa_cons (pv 1) pa_nil))))
      (pss_cons (ps_if (pt_not (pt_val (pe_use V (hr.mono (by decide)) (by rfl) (pa_cons (pv 0) (pa_cons (pv 2) pa_nil))))) (pss_one ps_never) pss_nil)
      (pss_one (ps_if (pt_cmpR op_ne (pe_callB call_len_seq (by rfl) T.len PySem.boot_len (pa_cons (pv 1) pa_nil)) (pe_callB call_len_seq (by rfl) T.len PySem.boot_len (pa_cons (pv 2) pa_nil)) (nomark _)) (pss_one ps_never) pss_nil))), ?_⟩
    refine ⟨_, rfl, _, rfl, k, .ref c, tabP kss, rfl, k2, k9, t.dt, f1.comp m1 m40, fun H1 s1 => ?_⟩
    refine ⟨_, rfl, _, rfl, _, tabP lss, k, rfl, (u.same s1).dt, fun H2 s2 => ⟨_, rfl, ?_⟩⟩
    rw [f2.comp (by omega) (by omega)]
    have t2 := (t.same s1).same s2
    have u2 := (u.same s1).same s2
    refine iteF ⟨_, rfl, c, _, rfl, .inl (SqL.of t2.top), _, rfl, d, _, rfl, .inl (SqL.of u2.top), rfl, _, rfl, ?_⟩
    refine iteNS ?_ (q _ (s1.trans s2))
    rw [List.length_map, List.length_map, t.len, u.len, e]

abbrev sLot : Stmt := topS 20
abbrev sCheckL : Stmt := topS 25
theorem scLot : FnScope ["many", "value", "person", "later"] ["many", "value"] (defScope sLot) := ⟨rfl, rfl, rfl, by decide +kernel, rfl, by decide +kernel, by decide +kernel⟩
theorem ok_lot {f : Addr} {fd : FuncData} (F : Fun K "is_lot" "is_lot" sLot f fd) (T : Bi mg) (U : Use P w K mg base "is_below" ["value", "bound"] (spBelow K) 2) : FnOk P w K mg base CX0 3 f fd ["many", "value"] (spLot K) := by
  refine F.ok scLot (fun vs H Q E h => ?_) (fun cdv A outer s H vs Q E hr h => ?_)
  · obtain ⟨n, o, l, rfl, _⟩ := h
    rfl
  · obtain ⟨n, o, l, rfl, n100, ho, lot, q⟩ := h
    refine ⟨_, pss_cons (ps_if (PW.pt (pw_or (pt_not (pt_val (pe_callB call_isi (by rfl) T.isinstance (by decide +kernel) (pa_cons (pv 1) (pa_cons (pe_bltn (v := .ty "list") (by rfl) T.list PyProof.Rows.boot_list rfl) pa_nil)))))
        (pw_or1 (pt_not (pt_chain op_le op_le pe_int (pe_callB call_len_seq (by rfl) T.len PySem.boot_len (pa_cons (pv 1) pa_nil)) (pv 0)))))) (pss_one (ps_ret pe_bl)) pss_nil)
      (pss_cons (ps_if (pt_not (pt_val (pe_callB (cr_all rfl) (by rfl) T.all (by decide +kernel) (pa_cons (pe_lc (own := [("person", 2)]) (g := gName 2) (tt := tYes) rfl scLot.nd (pi_list (pv 1)) (blkOk_by (N := ["many", "value", "person", "later"]) (sc := defScope sLot) (by decide +kernel))
        (fun _ _ _ _ _ => pg_name (i := 2) scLot.nd rfl (Or.inl rfl)) (fun _ _ _ _ _ => pts_nil) (fun _ _ _ _ _ => pe_use U hr (by rfl) (pa_cons (pv 2) (pa_cons (pv 0) pa_nil)))) pa_nil)))) (pss_one (ps_ret pe_bl)) pss_nil)
      (pss_one (ps_ret (pe_callB (cr_all rfl) (by rfl) T.all (by decide +kernel) (pa_cons (pe_lc (own := [("person", 2), ("later", 3)]) (g := gTup K 2 (gCons (gName 2) (gCons (gName 3) gNil))) (tt := tYes) rfl scLot.nd
        (pi_zip (by rfl) T.zip (pa_cons (pv 1) (pa_cons (pe_slice sl_list (pv 1) (po_some pe_int) po_none) pa_nil))) (blkOk_by (N := ["many", "value", "person", "later"]) (sc := defScope sLot) (by decide +kernel))
        (fun _ _ _ _ _ => pg_tup rfl (pgs_cons (pg_name (i := 2) scLot.nd rfl (Or.inl rfl)) (pgs_cons (pg_name (i := 3) scLot.nd rfl (Or.inl rfl)) pgs_nil))) (fun _ _ _ _ _ => pts_nil) (fun _ _ _ _ _ => pe_cmpR op_lt (pv 2) (pv 3) (nomark _))) pa_nil))))), ?_⟩
    obtain ⟨l1, l2⟩ := lot.len
    have ll : (natV l).length = l.length := List.length_map _
    refine ⟨_, rfl, _, _, _, _, _, rfl, .ty "list", .base (.lst ho), kit_list (.list []), _, rfl, iteF ⟨_, rfl, o, _, rfl, .inl (SqL.of ho), _, _, rfl, rfl, _, rfl, ?_⟩⟩
    rw [decide_eq_true (by omega : (1 : Int) ≤ ((natV l).length : Int))]
    refine iteT ⟨_, rfl, _, _, rfl, rfl, _, rfl, ?_⟩
    rw [decide_eq_true (by omega : ((natV l).length : Int) ≤ (n : Int))]
    refine iteF ⟨_, rfl, o, rfl, ⟨_, SqL.of ho⟩, fun D hD => ?_⟩
    refine lc_list (K := K) (a := o) (xs := natV l) (fun i H' => Same H H' ∧ H' D = some (.lst ((List.replicate i true).map V.bl))) ⟨same_new hD, upd_same⟩ (fun i H' _ z => SqL.of (z.1 _ _ ho)) ?_ ?_
    · rintro i y H' hi ⟨s1, h1⟩
      unfold natV at hi
      rw [List.getElem?_map] at hi
      cases e : l[i]? with
      | none =>
        rw [e] at hi
        cases hi
      | some p =>
        rw [e] at hi
        cases hi
        have pl := lot.low p (List.mem_of_getElem? e)
        have il := (List.getElem?_eq_some_iff.mp e).1
        refine ⟨rfl, yes_of ⟨_, rfl, _, rfl, _, .int (p : Nat), n, rfl, .int _, ?_⟩⟩
        have z : below n (.int (p : Nat)) = true := by
          show (decide ((0 : Int) ≤ (p : Nat)) && decide (((p : Nat) : Int) < n)) = true
          rw [decide_eq_true (by omega : (0 : Int) ≤ (p : Nat)), decide_eq_true (by omega : ((p : Nat) : Int) < n)]
          rfl
        rw [z]
        refine ⟨_, h1, ?_, fun b o' e' => ?_, ?_⟩
        · rw [List.length_map, List.length_replicate]
          exact small1000 (by omega)
        · rw [upd_ne (ne_of_none e' hD)]
          exact s1 b o' e'
        · rw [upd_same, trues_more]
    · rintro H' ⟨s1, h1⟩
      refine ⟨D, _, rfl, SqL.of h1, _, rfl, ?_⟩
      rw [trues_all]
      refine iteF ⟨_, rfl, _, rfl, 1, rfl, o, _, rfl, SqL.of (s1 _ _ ho), fun c nc => ?_⟩
      rw [cut_one]
      obtain ⟨H2, e2, s2, f2⟩ := gen H' nc (.lst ((natV l).drop 1))
      rw [e2]
      clear e2
      have s12 := s1.trans s2
      refine ⟨o, c, _, _, rfl, SqL.of (s12 _ _ ho), SqL.of f2, fun D2 hD2 => ?_⟩
      have mn : min (natV l).length ((natV l).drop 1).length = l.length - 1 := by
        rw [List.length_drop, ll]
        omega
      refine lc_it (walk_zip (K := K) (a := o) (b := c) (xs := natV l) (ys := (natV l).drop 1) (n := l.length - 1) mn.symm) (fun i H' => Same H2 H' ∧ H' D2 = some (.lst ((List.replicate i true).map V.bl))) ⟨same_new hD2, upd_same⟩ (fun i H' _ z => ⟨SqL.of (z.1 _ _ (s12 _ _ ho)), SqL.of (z.1 _ _ f2)⟩) ?_ ?_
      · rintro i y H3 H4 hi ⟨s3, h3⟩ ⟨A2, x1, x2, rfl, nA, rfl, e1, e2⟩
        have i1 : i < l.length := by omega
        have i2 : i + 1 < l.length := by omega
        have e1' : (natV l)[i]? = some x1 := e1
        have e2' : ((natV l).drop 1)[i]? = some x2 := e2
        unfold natV at e1' e2'
        rw [List.getElem?_map, List.getElem?_eq_getElem i1] at e1'
        rw [List.getElem?_drop, Nat.add_comm 1 i, List.getElem?_map, List.getElem?_eq_getElem i2] at e2'
        cases e1'
        cases e2'
        have lt : l[i] < l[i + 1] := List.pairwise_iff_getElem.mp lot.up i (i + 1) i1 i2 (by omega)
        refine ⟨A2, _, rfl, SqT.of upd_same, rfl, _, _, rfl, _, _, rfl, rfl, rfl, yes_of ?_⟩
        refine ⟨_, rfl, _, rfl, _, _, rfl, rfl, (List.replicate i true).map V.bl, ?_, ?_, ?_⟩
        · rw [upd_ne (ne_of_none h3 nA)]
          exact h3
        · rw [List.length_map, List.length_replicate]
          exact small1000 (by omega)
        · refine ⟨fun b o' e' => ?_, ?_⟩
          · rw [upd_ne (ne_of_none e' hD2)]
            exact (same_new nA) b o' (s3 b o' e')
          · have z : decide (((l[i] : Nat) : Int) < ((l[i + 1] : Nat) : Int)) = true := decide_eq_true (by omega)
            rw [upd_same, trues_more, ← z]
      · rintro H3 ⟨s3, h3⟩
        refine ⟨D2, _, rfl, SqL.of h3, ?_⟩
        rw [trues_all]
        exact q _ (s12.trans s3)
theorem scCheckL : FnScope ["company", "lot"] ["company", "lot"] (defScope sCheckL) := ⟨rfl, rfl, rfl, by decide +kernel, rfl, by decide +kernel, by decide +kernel⟩
theorem ok_checkL {f : Addr} {fd : FuncData} (F : Fun K "check_lot" "check_lot" sCheckL f fd) (T : Bi mg) (U : Use P w K mg base "is_lot" ["many", "value"] (spLot K) 3) : FnOk P w K mg base CX0 4 f fd ["company", "lot"] spCheckL := by
  refine F.ok scCheckL (fun vs H Q E h => ?_) (fun cdv A outer s H vs Q E hr h => ?_)
  · obtain ⟨c, o, xs, l, rfl, _⟩ := h
    rfl
  · obtain ⟨c, o, xs, l, rfl, hc, lx, ho, lot, q⟩ := h
    refine ⟨_, pss_one (ps_if (pt_not (pt_val (pe_use U hr (by rfl) (pa_cons (pe_callB call_len_seq (by rfl) T.len PySem.boot_len (pa_cons (pv 0) pa_nil)) (pa_cons (pv 1) pa_nil))))) (pss_one ps_never) pss_nil), ?_⟩
    exact ⟨_, rfl, c, _, rfl, .inl (SqL.of hc), _, rfl, xs.length, o, l, rfl, lx, ho, lot, fun H' s' => ⟨_, rfl, iteF (q _ s')⟩⟩

end
section
variable {P : Program} {w : World} {K : PySem.W.Frag} {mg : Str → Option Value} {base : Heap}
abbrev sCoupleD : Stmt := topS 18
abbrev nCoupleD : List Str := ["many", "value"]
theorem scCoupleD : FnScope nCoupleD ["many", "value"] (defScope sCoupleD) := ⟨rfl, rfl, rfl, by decide +kernel, rfl, by decide +kernel, by decide +kernel⟩
theorem ok_coupleD {f : Addr} {fd : FuncData} (F : Fun K "is_couple" "is_couple" sCoupleD f fd) (T : Bi mg) (Uisbelow : Use P w K mg base "is_below" ["value", "bound"] (spBelow K) 2) : FnOk P w K mg base CX0 3 f fd ["many", "value"] (spCoupleD K) := by
  refine F.ok scCoupleD (fun vs H Q E h => ?_) (fun cdv A outer s H vs Q E hr h => ?_)
  · obtain ⟨n, x, d, rfl, _⟩ := h
    rfl
  · obtain ⟨n, x, d, rfl, hd, q⟩ := h
    refine ⟨_, (pss_cons (ps_if (PW.pt (pw_or (pt_not (pt_val (pe_callB call_isi (by rfl) T.isinstance (by decide +kernel) (pa_cons (pv 1) (pa_cons (pe_bltn (v := .ty "tuple") (by rfl) T.tuple (by decide +kernel) rfl) pa_nil))))) (pw_or1 (pt_cmpR op_ne (pe_callB call_len_seq (by rfl) T.len PySem.boot_len (pa_cons (pv 1) pa_nil)) pe_int (nomark _)))))
        (pss_one (ps_ret pe_bl)) pss_nil)
      (pss_one (ps_ret (pe_and (pe_use Uisbelow hr (by rfl) (pa_cons (pe_ix ix_tup (pv 1) pe_int (fun _ _ => rfl)) (pa_cons (pv 0) pa_nil))) (pe_one (pe_use Uisbelow hr (by rfl) (pa_cons (pe_ix ix_tup (pv 1) pe_int (fun _ _ => rfl)) (pa_cons (pe_ix ix_tup (pv 1) pe_int (fun _ _ => rfl)) pa_nil)))))))), ?_⟩
    refine ⟨_, rfl, _, _, _, _, _, rfl, .ty "tuple", hd.ty, kit_tuple d, _, rfl, ?_⟩
    by_cases e : ∃ ds, d = .tuple ds
    · obtain ⟨ds, rfl⟩ := e
      cases hd with
      | tup ht hx =>
        rename_i t xs
        refine iteF ⟨_, rfl, t, _, rfl, .inr (SqT.of ht), rfl, _, rfl, ?_⟩
        have lx := hx.length
        by_cases l2 : ds.length = 2
        · match ds, l2, xs, hx with
          | [y, z], _, [vy, vz], .cons hy (.cons hz .nil) =>
            refine iteF ?_
            refine ⟨_, rfl, t, _, _, _, rfl, rfl, SqT.of ht, at_of (j := 1) rfl rfl, _, rfl, vz, z, n, rfl, hz, _, rfl, ?_⟩
            have cc : cplD n (.tuple [y, z]) = (below n z && cTail y z) := rfl
            cases bz : below n z with
            | false =>
              refine iteF ?_
              rw [cc, bz] at q
              exact q
            | true =>
              obtain ⟨j, rfl, j0, j1⟩ := below_int bz
              have ez : vz = .int j := by
                cases hz
                rfl
              subst ez
              refine iteT ⟨_, rfl, t, _, _, _, rfl, rfl, SqT.of ht, at_of (j := 0) rfl rfl, _, rfl, t, _, _, _, rfl, rfl, SqT.of ht, at_of (j := 1) rfl rfl, vy, y, j, rfl, hy, ?_⟩
              rw [cc, bz] at q
              exact q
        · have ne : ¬ ((xs.length : Nat) : Int) = 2 := by omega
          have ez : decide (V.int ((xs.length : Nat) : Int) = V.int 2) = false := decide_eq_false fun z => ne (by injection z)
          rw [ez]
          refine iteT ?_
          have cc : cplD n (.tuple ds) = false := by
            match ds, l2 with
            | [], _ => rfl
            | [a], _ => rfl
            | a :: b :: c :: l, _ => rfl
          rw [cc] at q
          exact q
    · have z : isTup d = false ∧ cplD n d = false := by
        cases d with
        | tuple ds => exact (e ⟨ds, rfl⟩).elim
        | _ => exact ⟨rfl, rfl⟩
      rw [z.1]
      refine iteT (iteT ?_)
      rw [z.2] at q
      exact q
abbrev sCheckCp : Stmt := topS 24
abbrev nCheckCp : List Str := ["company", "couple"]
theorem scCheckCp : FnScope nCheckCp ["company", "couple"] (defScope sCheckCp) := ⟨rfl, rfl, rfl, by decide +kernel, rfl, by decide +kernel, by decide +kernel⟩
theorem ok_checkCp {f : Addr} {fd : FuncData} (F : Fun K "check_couple" "check_couple" sCheckCp f fd) (T : Bi mg) (Uiscouple : Use P w K mg base "is_couple" ["many", "value"] (spCoupleD K) 3) : FnOk P w K mg base CX0 4 f fd ["company", "couple"] spCheckCp := by
  refine F.ok scCheckCp (fun vs H Q E h => ?_) (fun cdv A outer s H vs Q E hr h => ?_)
  · obtain ⟨c, t, xs, p, rfl, _⟩ := h
    rfl
  · obtain ⟨c, t, xs, p, rfl, hc, ht, p1, p2, q⟩ := h
    refine ⟨_, (pss_one (ps_if (pt_not (pt_val (pe_use Uiscouple hr (by rfl) (pa_cons (pe_callB call_len_seq (by rfl) T.len PySem.boot_len (pa_cons (pv 0) pa_nil)) (pa_cons (pv 1) pa_nil)))))
        (pss_one ps_never) pss_nil)), ?_⟩
    refine ⟨_, rfl, c, _, rfl, .inl (SqL.of hc), _, rfl, _, _, .tuple [.int (p.1 : Nat), .int (p.2 : Nat)], rfl, .tup ht (.cons (.int _) (.cons (.int _) .nil)), _, rfl, ?_⟩
    have z : cplD ((xs.length : Nat) : Int) (.tuple [.int (p.1 : Nat), .int (p.2 : Nat)]) = true := by
      show coupleOk _ _ _ = true
      unfold coupleOk
      rw [below_of (k := (xs.length : Nat)) (i := (p.2 : Nat)) (by omega) (by omega)]
      exact below_of (k := (p.2 : Nat)) (i := (p.1 : Nat)) (by omega) (by omega)
    rw [z]
    exact iteF q
end
end K03

namespace K03
open PySem PySem.Spec PyProof.Rows
open L2
open GL
section
variable {P : Program} {w : World} {K : PySem.W.Frag} {mg : Str → Option Value} {base : Heap}
abbrev sTies : Stmt := topS 27
abbrev nTies : List Str := ["company", "ties", "_", "other", "row", "one", "kind"]
theorem scTies : FnScope nTies ["company"] (defScope sTies) := ⟨rfl, rfl, rfl, by decide +kernel, rfl, by decide +kernel, by decide +kernel⟩
theorem ok_ties {f : Addr} {fd : FuncData} (F : Fun K "ties_of" "ties_of" sTies f fd) (T : Bi mg) : FnOk P w K mg base CX0 1 f fd ["company"] spTies := by
  refine F.ok scTies (fun vs H Q E h => ?_) (fun cdv A outer s H vs Q E hr h => ?_)
  · obtain ⟨c, rs, kss, k, rfl, _⟩ := h
    rfl
  · obtain ⟨c, rs, kss, k, rfl, t, fine, n100, q⟩ := h
    refine ⟨_, pss_cons (ps_setLc (i := 1) (own := [("_", 2)]) (g := gName 2) (tt := tYes) (te := tOp rRep (tLst (tCons (tC .non) tNil)) (tCB (rLen K) (tCons (tVar 0) tNil))) rfl scTies.nd rfl rfl (sw_true rfl rfl rfl (by decide +kernel)) (pi_list (pv 0))
          (blkOk_by (N := nTies) (sc := defScope sTies) (by decide +kernel)) (fun _ _ _ _ _ => pg_name (i := 2) scTies.nd rfl (Or.inl rfl)) (fun _ _ _ _ _ => pts_nil)
          (fun _ _ _ _ _ => by exact (pe_op op_rep (pe_lst (pa_cons pe_non pa_nil)) (pe_callB call_len_seq (by rfl) T.len PySem.boot_len (pa_cons (pv 0) pa_nil)))))
      (pss_cons (ps_for PassesOwn.never rfl (pi_enum (by rfl) T.enumerate (pa_cons (pv 0) pa_nil)) (pg_tup rfl (pgs_cons (pg_name (i := 3) scTies.nd rfl (Or.inl rfl)) (pgs_cons (pg_name (i := 4) scTies.nd rfl (Or.inl rfl)) pgs_nil)))
        (pss_one (ps_for PassesOwn.never rfl (pi_enum (by rfl) T.enumerate (pa_cons (pv 4) pa_nil)) (pg_tup rfl (pgs_cons (pg_name (i := 5) scTies.nd rfl (Or.inl rfl)) (pgs_cons (pg_name (i := 6) scTies.nd rfl (Or.inl rfl)) pgs_nil)))
          (pss_cons (ps_asg (pv 6) (pg_sub (pe_ix ix_list (pv 1) (pv 5) (fun _ _ => rfl)) (pv 3) set_list))
          (pss_one (ps_asg (pv 6) (pg_sub (pe_ix ix_list (pv 1) (pv 3) (fun _ _ => rfl)) (pv 5) set_list)))))))
      (pss_one (ps_ret (pv 1)))), ?_⟩
    obtain ⟨n, hn⟩ : ∃ n, kss.length = n := ⟨_, rfl⟩
    rw [hn] at n100
    have lr : (rs.map V.ref).length = n := by rw [List.length_map, t.len, hn]
    refine ⟨_, rfl, c, rfl, ⟨_, SqL.of t.top⟩, fun D hD => ?_⟩
    refine lc_list (K := K) (a := c) (xs := rs.map V.ref) (fun i H' => Same H H' ∧ ∃ ps : List Addr, H' D = some (.lst (ps.map V.ref)) ∧ ps.length = i ∧ (∀ r ∈ ps, H r = none ∧ H' r = some (.lst (List.replicate n .non))) ∧ ps.Nodup ∧ D ∉ ps)
      ⟨same_new hD, [], upd_same, rfl, by simp, List.nodup_nil, by simp⟩ (fun i H' _ z => SqL.of (z.1 _ _ t.top)) ?_ ?_
    · rintro i y H' hi ⟨s1, ps, h1, l1, a1, nd1, np1⟩
      have il := (List.getElem?_eq_some_iff.mp hi).1
      rw [lr] at il
      refine ⟨rfl, yes_of ?_⟩
      refine ⟨one_le, fun l hl => ?_⟩
      obtain ⟨H2, e2, s2, f2⟩ := gen H' hl (.lst [.non])
      rw [e2]
      clear e2
      have s12 := s1.trans s2
      refine ⟨_, rfl, c, _, rfl, .inl (SqL.of (s12 _ _ t.top)), l, _, _, rfl, rfl, f2, by omega, by omega, ?_, fun p hp => ?_⟩
      · show 1 * ((rs.map V.ref).length : Int).toNat ≤ sizeLine
        rw [lr]
        exact Nat.le_of_lt (small1000 (by omega))
      · have eq : (List.replicate ((rs.map V.ref).length : Int).toNat [V.non]).flatten = List.replicate n V.non := by
          rw [lr, Int.toNat_natCast, rep_non]
        rw [eq]
        obtain ⟨H3, e3, s3, f3⟩ := gen H2 hp (.lst (List.replicate n V.non))
        rw [e3]
        clear e3
        have s23 := s2.trans s3
        have hpD : D ≠ p := ne_of_none (s2 _ _ h1) hp
        have pps : p ∉ ps := fun z => by
          have := s2 _ _ (a1 p z).2
          rw [hp] at this
          cases this
        have hp0 : H p = none := s12.free hp
        refine ⟨ps.map V.ref, s23 _ _ h1, ?_, ?_, ps ++ [p], ?_, by rw [List.length_append, l1]; rfl, ?_, ?_, ?_⟩
        · rw [List.length_map]
          exact small1000 (by omega)
        · intro b o e
          rw [upd_ne (ne_of_none e hD)]
          exact s23 b o (s1 b o e)
        · rw [upd_same, List.map_append]
          rfl
        · intro r hr
          rcases List.mem_append.mp hr with hr | hr
          · have rD : r ≠ D := fun z => np1 (by rw [← z]; exact hr)
            rw [upd_ne rD]
            exact ⟨(a1 r hr).1, s23 _ _ (a1 r hr).2⟩
          · rw [List.mem_singleton] at hr
            subst hr
            rw [upd_ne hpD.symm]
            exact ⟨hp0, f3⟩
        · rw [List.nodup_append]
          refine ⟨nd1, by simp, fun a ha b hb => ?_⟩
          rw [List.mem_singleton] at hb
          subst hb
          exact fun z => pps (by rw [← z]; exact ha)
        · rw [List.mem_append, List.mem_singleton]
          rintro (z | z)
          · exact np1 z
          · exact hpD z
    · rintro H1 ⟨s1, ps, h1, l1, a1, nd1, np1⟩
      rw [lr] at l1
      have M0 : Mat H1 D ps n (ent kss 0 0) := ⟨h1, l1, fun i r hr => by
        rw [(a1 r (List.mem_of_getElem? hr)).2, rep_range, List.map_congr_left fun j _ => (ent_zero kss i j).symm], nd1, np1⟩
      have new : ∀ r ∈ ps, H r = none := fun r hr => (a1 r hr).1
      have keep : ∀ {H' : Hp} {r : Addr} {o : HO}, Same H H' → r ∈ ps → Same H (upd H' r o) := fun s' hr b u e => by
        rw [upd_ne (ne_of_none e (new _ hr))]
        exact s' b u e
      refine ⟨_, rfl, c, _, rfl, SqL.of (s1 _ _ t.top), ?_⟩
      refine for_it (walk_enum (K := K) (a := c) (xs := rs.map V.ref)) (fun m σ H' => ∃ a b d e : Option V, σ = [some (.ref c), some (.ref D), none, a, b, d, e] ∧ Same H H' ∧ Mat H' D ps n (ent kss m 0))
        ⟨none, none, none, none, rfl, s1, M0⟩ (fun m σ H' _ z => by
          obtain ⟨_, _, _, _, _, s', _⟩ := z
          exact SqL.of (s' _ _ t.top)) ?_ ?_
      · rintro m y σ H' H'' hm ⟨a, b, d, e, rfl, s', M⟩ ⟨A2, x1, x2, rfl, nA, rfl, e1, e2⟩
        rw [lr] at hm
        have e1' : x1 = .int (m : Nat) := (Option.some.inj e1).symm
        subst e1'
        obtain ⟨r, ks, c1, c2, c3⟩ := t.at (i := m) (by omega)
        have e2' : x2 = .ref r := by
          have e3 : (rs.map V.ref)[m]? = some x2 := e2
          rw [List.getElem?_map, c1] at e3
          exact (Option.some.inj e3).symm
        subst e2'
        obtain ⟨lk, bk⟩ := fine _ _ c2
        have s2 := s'.trans (same_new (o := .tup [.int (m : Nat), .ref r]) nA)
        have M2 := M.same (same_new (o := .tup [.int (m : Nat), .ref r]) nA)
        refine ⟨A2, [.int (m : Nat), .ref r], rfl, SqT.of upd_same, rfl, _, _, rfl, _, _, rfl, rfl, ?_⟩
        refine ⟨_, rfl, r, _, rfl, SqL.of (s2 _ _ c3), ?_⟩
        have lks : (ks.map V.int).length = m := by rw [List.length_map]; exact lk
        refine for_it (walk_enum (K := K) (a := r) (xs := ks.map V.int)) (fun j σ H' => ∃ d e : Option V, σ = [some (.ref c), some (.ref D), none, some (.int (m : Nat)), some (.ref r), d, e] ∧ Same H H' ∧ Mat H' D ps n (ent kss m j))
          ⟨d, e, rfl, s2, M2⟩ (fun j σ H' _ z => by
            obtain ⟨_, _, _, s', _⟩ := z
            exact SqL.of (s' _ _ c3)) ?_ ?_
        · rintro j y σ H3 H4 hj ⟨d, e, rfl, s3, M3⟩ ⟨A3, z1, z2, rfl, nA3, rfl, g1, g2⟩
          rw [lks] at hj
          have g1' : z1 = .int (j : Nat) := (Option.some.inj g1).symm
          subst g1'
          have jl : j < ks.length := by omega
          have ek : tieN kss m j = ks[j] := by
            have eA : kss.getD (max m j) [] = ks := by rw [List.getD_eq_getElem?_getD, Nat.max_eq_left (by omega), c2]; rfl
            unfold tieN
            rw [eA, Nat.min_eq_right (by omega), List.getD_eq_getElem?_getD, List.getElem?_eq_getElem jl]
            rfl
          have g2' : z2 = .int (tieN kss m j) := by
            have e3 : (ks.map V.int)[j]? = some z2 := g2
            rw [List.getElem?_map, List.getElem?_eq_getElem jl] at e3
            rw [ek]
            exact (Option.some.inj e3).symm
          subst g2'
          have s4 := s3.trans (same_new (o := .tup [.int (j : Nat), .int (tieN kss m j)]) nA3)
          have M4 := M3.same (same_new (o := .tup [.int (j : Nat), .int (tieN kss m j)]) nA3)
          refine ⟨A3, [.int (j : Nat), .int (tieN kss m j)], rfl, SqT.of upd_same, rfl, _, _, rfl, _, _, rfl, rfl, ?_⟩
          generalize upd H3 A3 (.tup [.int (j : Nat), .int (tieN kss m j)]) = H4 at s4 M4
          obtain ⟨rj, j1, j2⟩ := M4.at (i := j) (by omega)
          have M5 := M4.set (v := .int (tieN kss m j)) j1 (by omega : m < n)
          refine ⟨_, rfl, _, rfl, _, rfl, D, _, _, _, rfl, rfl, SqL.of M4.top, at_of (j := j) (v := V.ref rj) rfl (by rw [List.getElem?_map, j1]; rfl), _, rfl, rj, _, _, m, rfl, rfl, j2, ?_, ?_⟩
          · rw [List.length_map, List.length_range]
            exact ixN_nat (by omega)
          · have s5 : Same H _ := keep (o := .lst (((List.range n).map (ent kss m j j)).set m (.int (tieN kss m j)))) s4 (List.mem_of_getElem? j1)
            generalize upd H4 rj (.lst (((List.range n).map (ent kss m j j)).set m (.int (tieN kss m j)))) = H5 at s5 M5
            obtain ⟨rm, m1, m2⟩ := M5.at (i := m) (by omega)
            have M6 := M5.set (v := .int (tieN kss m j)) m1 (by omega : j < n)
            have s6 : Same H _ := keep (o := .lst (((List.range n).map (fun b => if m = j ∧ b = m then V.int (tieN kss m j) else ent kss m j m b)).set j (.int (tieN kss m j)))) s5 (List.mem_of_getElem? m1)
            refine ⟨_, rfl, _, rfl, _, rfl, D, _, _, _, rfl, rfl, SqL.of M5.top, at_of (j := m) (v := V.ref rm) rfl (by rw [List.getElem?_map, m1]; rfl), _, rfl, rm, _, _, j, rfl, rfl, m2, ?_, ?_⟩
            · rw [List.length_map, List.length_range]
              exact ixN_nat (by omega)
            · rw [← ent_next kss hj]
              exact ⟨_, _, rfl, s6, M6⟩
        · rintro σ H3 ⟨d, e, rfl, s3, M3⟩
          rw [lks, ent_row] at M3
          exact ⟨_, _, _, _, rfl, s3, M3⟩
      · rintro σ H' ⟨a, b, d, e, rfl, s', M⟩
        rw [lr] at M
        refine ⟨_, rfl, q D ps H' s' ?_ new⟩
        rw [hn]
        exact M.congr fun i j hi hj => ent_all kss n i j hi hj

abbrev sAreAlike : Stmt := topS 29
abbrev nAreAlike : List Str := ["ties", "one", "other", "third", "row"]
theorem scAreAlike : FnScope nAreAlike ["ties", "one", "other"] (defScope sAreAlike) := ⟨rfl, rfl, rfl, by decide +kernel, rfl, by decide +kernel, by decide +kernel⟩
theorem ok_areAlike {f : Addr} {fd : FuncData} (F : Fun K "are_alike" "are_alike" sAreAlike f fd) (T : Bi mg) : FnOk P w K mg base CX0 1 f fd ["ties", "one", "other"] spAreAlike := by
  refine F.ok scAreAlike (fun vs H Q E h => ?_) (fun cdv A outer s H vs Q E hr h => ?_)
  · obtain ⟨m, ps, kss, a, b, rfl, _⟩ := h
    rfl
  · obtain ⟨m, ps, kss, a, b, rfl, M, n100, al, bl, ab, q⟩ := h
    refine ⟨_, pss_cons (ps_for PassesOwn.never rfl (pi_enum (by rfl) T.enumerate (pa_cons (pv 0) pa_nil)) (pg_tup rfl (pgs_cons (pg_name (i := 3) scAreAlike.nd rfl (Or.inl rfl)) (pgs_cons (pg_name (i := 4) scAreAlike.nd rfl (Or.inl rfl)) pgs_nil)))
        (pss_one (ps_if (PW.pt (pw_and (pt_cmpR op_ne (pe_ix ix_list (pv 4) (pv 1) (fun _ _ => rfl)) (pe_ix ix_list (pv 4) (pv 2) (fun _ _ => rfl)) (nomark _)) (pw_and (pt_cmpR op_ne (pv 3) (pv 1) (nomark _)) (pw_and1 (pt_cmpR op_ne (pv 3) (pv 2) (nomark _))))))
          (pss_one (ps_ret pe_bl)) pss_nil)))
      (pss_one (ps_ret pe_bl)), ?_⟩
    have lp : (ps.map V.ref).length = kss.length := by rw [List.length_map, M.len]
    refine ⟨_, rfl, m, _, rfl, SqL.of M.top, ?_⟩
    refine for_it (walk_enum (K := K) (a := m) (xs := ps.map V.ref)) (fun i σ H' => ∃ x y : Option V, σ = [some (.ref m), some (.int a), some (.int b), x, y] ∧ Same H H' ∧ ∀ j, j < i → (j == a || j == b || decide (tieN kss j a = tieN kss j b)) = true)
      ⟨none, none, rfl, Same.refl _, fun p hp => absurd hp (Nat.not_lt_zero p)⟩ (fun i σ H' _ z => by
        obtain ⟨_, _, _, s', _⟩ := z
        exact SqL.of (s' _ _ M.top)) ?_ ?_
    · rintro i y σ H1 H2 hi ⟨x, z, rfl, s1, yes⟩ ⟨A2, x1, x2, rfl, nA, rfl, e1, e2⟩
      rw [lp] at hi
      have e1' : x1 = .int (i : Nat) := (Option.some.inj e1).symm
      subst e1'
      obtain ⟨r, c1, c2⟩ := M.at hi
      have e2' : x2 = .ref r := by
        have e3 : (ps.map V.ref)[i]? = some x2 := e2
        rw [List.getElem?_map, c1] at e3
        exact (Option.some.inj e3).symm
      subst e2'
      have s2 := s1.trans (same_new (o := .tup [.int (i : Nat), .ref r]) nA)
      refine ⟨A2, [.int (i : Nat), .ref r], rfl, SqT.of upd_same, rfl, _, _, rfl, _, _, rfl, rfl, ?_⟩
      generalize upd H1 A2 (.tup [.int (i : Nat), .ref r]) = H2 at s2
      have next : (i == a || i == b || decide (tieN kss i a = tieN kss i b)) = true → ∃ x y : Option V, [some (V.ref m), some (.int a), some (.int b), some (.int (i : Nat)), some (.ref r)] = [some (.ref m), some (.int a), some (.int b), x, y] ∧ Same H H2 ∧ ∀ j, j < i + 1 → (j == a || j == b || decide (tieN kss j a = tieN kss j b)) = true := fun z =>
        ⟨_, _, rfl, s2, fun p hp => by
          by_cases c : p = i
          · subst c
            exact z
          · exact yes p (by omega)⟩
      have tz : ∀ x, x < kss.length → atI ((List.range kss.length).map (tieV kss i)) ((x : Nat) : Int) = some (tieV kss i x) := fun x hx => atI_nat (by rw [List.getElem?_map, List.getElem?_range hx]; rfl)
      refine ⟨_, rfl, _, rfl, r, _, _, _, rfl, rfl, SqL.of (s2 _ _ c2), tz a al, _, rfl, _, rfl, r, _, _, _, rfl, rfl, SqL.of (s2 _ _ c2), tz b bl, ty_scal kss i a b, _, rfl, ?_⟩
      have dn : ∀ x : Nat, decide (V.int (i : Nat) = V.int (x : Nat)) = (i == x) := fun x => by
        by_cases c : i = x
        · subst c; simp
        · have : ¬ ((i : Nat) : Int) = (x : Nat) := by omega
          simp [c, this]
      by_cases ia : i = a
      · have nn := next (by rw [ia]; simp)
        refine ite2 (fun _ => ?_) (fun _ => iteF nn)
        refine ⟨_, rfl, _, rfl, rfl, _, rfl, ?_⟩
        rw [dn, ia]
        simp only [beq_self_eq_true, Bool.not_true]
        rw [ia] at nn
        exact iteF (iteF nn)
      · by_cases ib : i = b
        · have nn := next (by rw [ib]; simp)
          refine ite2 (fun _ => ?_) (fun _ => iteF nn)
          refine ⟨_, rfl, _, rfl, rfl, _, rfl, ?_⟩
          rw [dn]
          have : (i == a) = false := by simpa using ia
          rw [this]
          refine iteT ⟨_, rfl, _, rfl, rfl, _, rfl, ?_⟩
          rw [dn]
          have : (i == b) = true := by simpa using ib
          rw [this]
          exact iteF nn
        · have eA : (i == a) = false := by simpa using ia
          have eB : (i == b) = false := by simpa using ib
          rw [tyV_ne ia ib]
          by_cases c3 : tieN kss i a = tieN kss i b
          · rw [decide_eq_true c3]
            exact iteF (iteF (next (by rw [c3]; simp)))
          · rw [decide_eq_false c3]
            refine iteT ⟨_, rfl, _, rfl, rfl, _, rfl, ?_⟩
            rw [dn, eA]
            refine iteT ⟨_, rfl, _, rfl, rfl, _, rfl, ?_⟩
            rw [dn, eB]
            refine iteT ?_
            have ef : alikeB kss a b = false := by
              cases h : alikeB kss a b with
              | false => rfl
              | true =>
                have := List.all_eq_true.mp h i (List.mem_range.mpr hi)
                rw [eA, eB] at this
                simp [c3] at this
            rw [ef] at q
            exact q _ s2
    · rintro σ H1 ⟨x, z, rfl, s1, yes⟩
      have ea : alikeB kss a b = true := List.all_eq_true.mpr fun j hj => yes j (by rw [lp]; exact List.mem_range.mp hj)
      rw [ea] at q
      exact q H1 s1

abbrev sCplAlike : Stmt := topS 30
abbrev nCplAlike : List Str := ["ties", "one", "other"]
theorem scCplAlike : FnScope nCplAlike ["ties"] (defScope sCplAlike) := ⟨rfl, rfl, rfl, by decide +kernel, rfl, by decide +kernel, by decide +kernel⟩
theorem ok_cplAlike {f : Addr} {fd : FuncData} (F : Fun K "couples_alike" "couples_alike" sCplAlike f fd) (T : Bi mg) (I : Im mg) (U : Use P w K mg base "are_alike" ["ties", "one", "other"] spAreAlike 1) : FnOk P w K mg base CX0 2 f fd ["ties"] spCplAlike := by
  refine F.ok scCplAlike (fun vs H Q E h => ?_) (fun cdv A outer s H vs Q E hr h => ?_)
  · obtain ⟨m, ps, kss, rfl, _⟩ := h
    rfl
  · obtain ⟨m, ps, kss, rfl, M, n100, q⟩ := h
    refine ⟨_, pss_one (ps_ret (pe_lc (own := [("one", 1), ("other", 2)]) (g := gTup K 2 (gCons (gName 1) (gCons (gName 2) gNil))) (tt := tTest (tCall spAreAlike [] E0 (tCons (tVar 0) (tCons (tVar 1) (tCons (tVar 2) tNil))))) (te := tTup (tCons (tVar 1) (tCons (tVar 2) tNil))) rfl scCplAlike.nd
        (Cmb.pi_comb (by rfl) I (pa_cons (pe_callTy Cmb.cr_range1 (by rfl) T.range (by decide +kernel) (pa_cons (pe_callB call_len_seq (by rfl) T.len PySem.boot_len (pa_cons (pv 0) pa_nil)) pa_nil)) (pa_cons pe_int pa_nil)))
        (blkOk_by (N := nCplAlike) (sc := defScope sCplAlike) (by decide +kernel)) (fun _ _ _ _ _ => pg_tup rfl (pgs_cons (pg_name (i := 1) scCplAlike.nd rfl (Or.inl rfl)) (pgs_cons (pg_name (i := 2) scCplAlike.nd rfl (Or.inl rfl)) pgs_nil)))
        (fun _ _ _ _ _ => by exact (pts_one (pt_val (pe_use U hr (by rfl) (pa_cons (pv 0) (pa_cons (pv 1) (pa_cons (pv 2) pa_nil))))))) (fun _ _ _ _ _ => by exact (pe_tup (pa_cons (pv 1) (pa_cons (pv 2) pa_nil)))))), ?_⟩
    obtain ⟨n, hn⟩ : ∃ n, kss.length = n := ⟨_, rfl⟩
    have lp : (ps.map V.ref).length = n := by rw [List.length_map, M.len, hn]
    refine ⟨_, rfl, m, _, rfl, .inl (SqL.of M.top), _, rfl, fun rg hrg => ?_⟩
    rw [lp]
    obtain ⟨H1, e1, s1, f1⟩ := gen H hrg (.rng 0 (n : Int))
    rw [e1]
    clear e1
    rw [hn] at n100 q
    refine ⟨rg, n, 2, rfl, f1, by omega, by decide, fun D hD => ?_⟩
    have hD0 : H D = none := s1.free hD
    have cl : (Cmb.choices n 2).length = (cplTo n n).length := by rw [choices_pairs, List.length_map]
    have big : (cplTo n n).length ≤ 10000 := Nat.le_trans (cpl_len n n) (Nat.mul_le_mul n100 n100)
    refine lc_it (Cmb.walk_comb (n := n) (r := 2)) (fun i H' => Same H1 H' ∧ ∃ ts, Cpls H H' D ts ∧ ts.map (·.2) = ((cplTo n n).take i).filter (fun c => alikeB kss c.1 c.2))
      ⟨same_new hD, [], ⟨upd_same, by simp, by simp⟩, rfl⟩ (fun _ _ _ _ => trivial) ?_ ?_
    · rintro i y H2 H3 hi ⟨s2, ts, R, e2⟩ ⟨T2, l, rfl, nT, el, rfl⟩
      rw [choices_pairs, List.getElem?_map] at el
      cases ec : (cplTo n n)[i]? with
      | none =>
        rw [ec] at el
        cases el
      | some c =>
        rw [ec] at el
        cases el
        obtain ⟨w1, w2, w3⟩ := (cpl_mem n n c.1 c.2).mp (List.mem_of_getElem? ec)
        have eT : Cmb.natT [c.1, c.2] = pairT c := rfl
        rw [eT]
        obtain ⟨H4, e4, s4, f4⟩ := gen H2 nT (.tup (pairT c))
        rw [e4]
        clear e4
        have s24 := s2.trans s4
        have s04 := s1.trans s24
        refine ⟨T2, pairT c, rfl, SqT.of f4, rfl, _, _, rfl, _, _, rfl, rfl, rfl, ?_⟩
        refine ⟨_, rfl, _, rfl, _, rfl, m, ps, kss, c.1, c.2, rfl, M.same s04, by omega, by omega, by omega, by omega, fun H5 s5 => ⟨_, rfl, ?_⟩⟩
        have s25 := s4.trans s5
        cases ha : alikeB kss c.1 c.2 with
        | false =>
          refine iteF ⟨s2.trans s25, ts, R.same s25, ?_⟩
          rw [cpl_take ec, ha, if_neg (by decide), List.append_nil]
          exact e2
        | true =>
          refine iteT ⟨_, rfl, _, rfl, (by show 2 ≤ sizeLine; decide), fun p hp => ?_⟩
          obtain ⟨H6, e6, s6, f6⟩ := gen H5 hp (.tup [.int (c.1 : Nat), .int (c.2 : Nat)])
          rw [e6]
          clear e6
          have s26 := s25.trans s6
          have hp2 : H2 p = none := s25.free hp
          refine ⟨_, s26 _ _ R.top, ?_, fun b o e' => ?_, ts ++ [(p, c)], R.push s26 hp2 (s1.free (s2.free hp2)) f6, ?_⟩
          · have lt : ts.length ≤ (cplTo n n).length := by
              have := congrArg List.length e2
              rw [List.length_map] at this
              rw [this]
              exact Nat.le_trans (List.length_filter_le _ _) (by rw [List.length_take]; omega)
            rw [List.length_map, sizeLine_eq]
            omega
          · rw [upd_ne (ne_of_none e' hD)]
            exact s26 b o (s2 b o e')
          · rw [List.map_append, e2, cpl_take ec, ha]
            rfl
    · rintro H2 ⟨s2, ts, R, e2⟩
      rw [cl, List.take_length] at e2
      exact q D ts H2 (s1.trans s2) hD0 R e2

abbrev sAmongC : Stmt := topS 31
abbrev nAmongC : List Str := ["company", "lot", "place", "person", "before"]
theorem scAmongC : FnScope nAmongC ["company", "lot"] (defScope sAmongC) := ⟨rfl, rfl, rfl, by decide +kernel, rfl, by decide +kernel, by decide +kernel⟩
theorem ok_amongC {f : Addr} {fd : FuncData} (F : Fun K "company_among" "company_among" sAmongC f fd) (T : Bi mg) : FnOk P w K mg base CX0 1 f fd ["company", "lot"] spAmongC := by
  refine F.ok scAmongC (fun vs H Q E h => ?_) (fun cdv A outer s H vs Q E hr h => ?_)
  · obtain ⟨c, o, rs, kss, k, l, rfl, _⟩ := h
    rfl
  · obtain ⟨c, o, rs, kss, k, os, rfl, t, fine, n100, ho, lot, q⟩ := h
    refine ⟨_, pss_one (ps_ret (pe_lc (own := [("place", 2), ("person", 3)]) (g := gTup K 2 (gCons (gName 2) (gCons (gName 3) gNil))) (tt := tYes) (te := tLc (iList K (tSl (rSlL K) (tVar 1) tNoPart (tPart (tVar 2)))) (gName 4) tYes (tOp (rIxL K) (tOp (rIxL K) (tVar 0) (tVar 3)) (tVar 4)) [4]) rfl scAmongC.nd (pi_enum (by rfl) T.enumerate (pa_cons (pv 1) pa_nil))
        (blkOk_by (N := nAmongC) (sc := defScope sAmongC) (by decide +kernel)) (fun _ _ _ _ _ => pg_tup rfl (pgs_cons (pg_name (i := 2) scAmongC.nd rfl (Or.inl rfl)) (pgs_cons (pg_name (i := 3) scAmongC.nd rfl (Or.inr rfl)) pgs_nil)))
        (fun _ _ _ _ _ => pts_nil)
        (fun _ _ _ _ _ => by exact (pe_lc (own := [("before", 4)]) (g := gName 4) (tt := tYes) rfl scAmongC.nd (pi_list (pe_slice sl_list (pv 1) po_none (po_some (pv 2))))
          (blkOk_by (N := nAmongC) (sc := relS (compScope (exprOf (stmtIn (defBody sAmongC) 0))) (defScope sAmongC)) (by decide +kernel)) (fun _ _ _ _ _ => pg_name (i := 4) scAmongC.nd rfl (Or.inl rfl))
          (fun _ _ _ _ _ => pts_nil) (fun _ _ _ _ _ => by exact (pe_ix ix_list (pe_ix ix_list (pv 0) (pv 3) (fun _ _ => rfl)) (pv 4) (fun _ _ => rfl))))))), ?_⟩
    have nd := nodup_up lot.up
    have bd := lot.low
    have len := lot.len
    refine ⟨_, rfl, o, natV os, rfl, SqL.of ho, fun D hD => ?_⟩
    have lo : (natV os).length = os.length := List.length_map _
    refine lc_it (walk_enum (K := K) (a := o) (xs := natV os)) (fun i H5 => Same H H5 ∧ ∃ rs, Tab H5 D rs ((List.range i).map (rowN kss os)) ∧ D ∉ rs ∧ ∀ r ∈ rs, H r = none) ⟨same_new hD, [], ⟨upd_same, rfl, fun i r ks h => by simp at h, List.nodup_nil⟩, by simp, by simp⟩ (fun i H5 _ z => (z.1).seq (SqL.of ho)) ?_ ?_
    · rintro i y H5 H6 hi ⟨s1, rs', u, nD, nR⟩ ⟨A2, x1, x2, rfl, nA, rfl, e1, e2⟩
      have e1' : x1 = .int (i : Nat) := (Option.some.inj e1).symm
      subst e1'
      rw [lo] at hi
      have e2' : x2 = .int (os[i] : Nat) := by
        have e3 : (natV os)[i]? = some x2 := e2
        unfold natV at e3
        rw [List.getElem?_map, List.getElem?_eq_getElem hi] at e3
        exact (Option.some.inj e3).symm
      subst e2'
      have s2 := s1.trans (same_new (o := .tup [.int (i : Nat), .int (os[i] : Nat)]) nA)
      refine ⟨A2, [.int (i : Nat), .int (os[i] : Nat)], rfl, SqT.of upd_same, rfl, _, _, rfl, _, _, rfl, rfl, rfl, yes_of ?_⟩
      refine ⟨_, rfl, _, rfl, _, rfl, o, _, rfl, SqL.of (s2 _ _ ho), fun C hC => ?_⟩
      rw [cut_to (by rw [lo]; omega)]
      have s3 := s2.trans (same_new (o := .lst ((natV os).take i)) hC)
      refine ⟨_, rfl, ⟨_, SqL.of upd_same⟩, fun D2 hD2 => ?_⟩
      refine lc_list (K := K) (a := C) (xs := (natV os).take i) (fun j H7 => Same (upd (upd H5 A2 (.tup [.int (i : Nat), .int (os[i] : Nat)])) C (.lst ((natV os).take i))) H7 ∧ H7 D2 = some (.lst (((List.range j).map fun j => tieN kss (os.getD i 0) (os.getD j 0)).map V.int)))
        ⟨same_new hD2, upd_same⟩ (fun j H7 _ z => (z.1).seq (SqL.of upd_same)) ?_ ?_
      · rintro j y H7 hj ⟨s5, h5⟩
        have hji : j < i := by
          have := (List.getElem?_eq_some_iff.mp hj).1
          rw [List.length_take] at this
          omega
        have hjl : j < os.length := by omega
        have ey : y = .int (os[j] : Nat) := by
          rw [List.getElem?_take_of_lt hji] at hj
          unfold natV at hj
          rw [List.getElem?_map, List.getElem?_eq_getElem hjl] at hj
          exact (Option.some.inj hj).symm
        subst ey
        have b1 : os[i] < kss.length := bd _ (List.getElem_mem _)
        have b2 : os[j] < kss.length := bd _ (List.getElem_mem _)
        have ne : os[i] ≠ os[j] := fun z => by
          have := (List.getElem_inj nd).mp z
          omega
        have s35 := s3.trans s5
        have gi : os.getD i 0 = os[i] := by rw [List.getD_eq_getElem?_getD, List.getElem?_eq_getElem hi]; rfl
        have gj : os.getD j 0 = os[j] := by rw [List.getD_eq_getElem?_getD, List.getElem?_eq_getElem hjl]; rfl
        have last : ∃ acc, H7 D2 = some (.lst acc) ∧ acc.length < sizeLine ∧ Same (upd (upd H5 A2 (.tup [.int (i : Nat), .int (os[i] : Nat)])) C (.lst ((natV os).take i))) (upd H7 D2 (.lst (acc ++ [V.int (tieN kss os[i] os[j])]))) ∧
            (upd H7 D2 (.lst (acc ++ [V.int (tieN kss os[i] os[j])]))) D2 = some (.lst (((List.range (j + 1)).map fun j => tieN kss (os.getD i 0) (os.getD j 0)).map V.int)) := by
          refine ⟨_, h5, ?_, fun b o' zz => ?_, ?_⟩
          · rw [List.length_map, List.length_map, List.length_range]
            exact small1000 (by omega)
          · have nb : b ≠ D2 := ne_of_none zz hD2
            rw [upd_ne nb]
            exact s5 b o' zz
          · rw [upd_same, List.range_succ, List.map_append, List.map_append]
            show _ = some (HO.lst (_ ++ [V.int (tieN kss (os.getD i 0) (os.getD j 0))]))
            rw [gi, gj]
        refine ⟨rfl, yes_of ?_⟩
        have lt : os[j] < os[i] := List.pairwise_iff_getElem.mp lot.up j i hjl hi hji
        obtain ⟨r1, k1, x1, x2, x3⟩ := (t.same s35).entry fine lt b1
        exact ⟨_, rfl, _, rfl, c, _, _, _, rfl, rfl, SqL.of (t.same s35).top, x1, _, rfl, r1, _, _, _, rfl, rfl, SqL.of x2, x3, last⟩
      · rintro H7 ⟨s5, h5⟩
        have l6 : ((natV os).take i).length = i := by
          rw [List.length_take, lo]
          omega
        rw [l6] at h5
        have nA' : ∀ b o', H5 b = some o' → H7 b = some o' := fun b o' e => s5 b o' ((same_new hC) b o' ((same_new nA) b o' e))
        have hp : H5 D2 = none := (same_new nA).free ((same_new hC).free hD2)
        refine ⟨rs'.map V.ref, nA' _ _ u.top, ?_, fun b o' e => ?_, ?_⟩
        · rw [List.length_map, u.len, List.length_map, List.length_range]
          exact small1000 (by omega)
        · rw [upd_ne (ne_of_none e hD)]
          exact nA' b o' (s1 b o' e)
        · obtain ⟨t2, n2⟩ := u.push nD (fun r _ o' e => nA' r o' e) (ks := rowN kss os i) hp h5
          refine ⟨_, ?_, n2, fun r hr => ?_⟩
          · rw [List.range_succ, List.map_append]
            exact t2
          · rcases List.mem_append.mp hr with hr | hr
            · exact nR r hr
            · rw [List.mem_singleton] at hr
              subst hr
              exact s1.free hp
    · rintro H5 ⟨s1, rs', u, nD, nR⟩
      rw [lo] at u
      exact q D rs' H5 s1 u nD hD nR

abbrev sUnlikeC : Stmt := topS 32
abbrev nUnlikeC : List Str := ["one", "other", "low", "high"]
theorem scUnlikeC : FnScope nUnlikeC ["one", "other"] (defScope sUnlikeC) := ⟨rfl, rfl, rfl, by decide +kernel, rfl, by decide +kernel, by decide +kernel⟩
theorem ok_unlikeC {f : Addr} {fd : FuncData} (F : Fun K "couples_unlike" "couples_unlike" sUnlikeC f fd) (T : Bi mg) (I : Im mg) : FnOk P w K mg base CX0 1 f fd ["one", "other"] spUnlikeC := by
  refine F.ok scUnlikeC (fun vs H Q E h => ?_) (fun cdv A outer s H vs Q E hr h => ?_)
  · obtain ⟨c, d, rs, ps, kss, lss, k, rfl, _⟩ := h
    rfl
  · obtain ⟨m, m2, rs, ps, kss, lss, k, rfl, t, u, fk, fl, n100, el, q⟩ := h
    refine ⟨_, pss_one (ps_ret (pe_lc (own := [("low", 2), ("high", 3)]) (g := gTup K 2 (gCons (gName 2) (gCons (gName 3) gNil))) (tt := tTest (tOp rNe (tOp (rIxL K) (tOp (rIxL K) (tVar 0) (tVar 3)) (tVar 2)) (tOp (rIxL K) (tOp (rIxL K) (tVar 1) (tVar 3)) (tVar 2)))) (te := tTup (tCons (tVar 2) (tCons (tVar 3) tNil))) rfl scUnlikeC.nd
        (Cmb.pi_comb (by rfl) I (pa_cons (pe_callTy Cmb.cr_range1 (by rfl) T.range (by decide +kernel) (pa_cons (pe_callB call_len_seq (by rfl) T.len PySem.boot_len (pa_cons (pv 0) pa_nil)) pa_nil)) (pa_cons pe_int pa_nil)))
        (blkOk_by (N := nUnlikeC) (sc := defScope sUnlikeC) (by decide +kernel)) (fun _ _ _ _ _ => pg_tup rfl (pgs_cons (pg_name (i := 2) scUnlikeC.nd rfl (Or.inl rfl)) (pgs_cons (pg_name (i := 3) scUnlikeC.nd rfl (Or.inl rfl)) pgs_nil)))
        (fun _ _ _ _ _ => by exact (pts_one (pt_cmpR op_ne (pe_ix ix_list (pe_ix ix_list (pv 0) (pv 3) (fun _ _ => rfl)) (pv 2) (fun _ _ => rfl)) (pe_ix ix_list (pe_ix ix_list (pv 1) (pv 3) (fun _ _ => rfl)) (pv 2) (fun _ _ => rfl)) (nomark _)))) (fun _ _ _ _ _ => by exact (pe_tup (pa_cons (pv 2) (pa_cons (pv 3) pa_nil)))))), ?_⟩
    obtain ⟨n, hn⟩ : ∃ n, kss.length = n := ⟨_, rfl⟩
    have lp : (rs.map V.ref).length = n := by rw [List.length_map, t.len, hn]
    refine ⟨_, rfl, m, _, rfl, .inl (SqL.of t.top), _, rfl, fun rg hrg => ?_⟩
    rw [lp]
    obtain ⟨H1, e1, s1, f1⟩ := gen H hrg (.rng 0 (n : Int))
    rw [e1]
    clear e1
    rw [hn] at n100 q
    refine ⟨rg, n, 2, rfl, f1, by omega, by decide, fun D hD => ?_⟩
    have hD0 : H D = none := s1.free hD
    have cl : (Cmb.choices n 2).length = (cplTo n n).length := by rw [choices_pairs, List.length_map]
    have big : (cplTo n n).length ≤ 10000 := Nat.le_trans (cpl_len n n) (Nat.mul_le_mul n100 n100)
    refine lc_it (Cmb.walk_comb (n := n) (r := 2)) (fun i H' => Same H1 H' ∧ ∃ ts, Cpls H H' D ts ∧ ts.map (·.2) = ((cplTo n n).take i).filter (fun c => !decide (tieN kss c.2 c.1 = tieN lss c.2 c.1)))
      ⟨same_new hD, [], ⟨upd_same, by simp, by simp⟩, rfl⟩ (fun _ _ _ _ => trivial) ?_ ?_
    · rintro i y H2 H3 hi ⟨s2, ts, R, e2⟩ ⟨T2, l, rfl, nT, el, rfl⟩
      rw [choices_pairs, List.getElem?_map] at el
      cases ec : (cplTo n n)[i]? with
      | none =>
        rw [ec] at el
        cases el
      | some c =>
        rw [ec] at el
        cases el
        obtain ⟨w1, w2, w3⟩ := (cpl_mem n n c.1 c.2).mp (List.mem_of_getElem? ec)
        have eT : Cmb.natT [c.1, c.2] = pairT c := rfl
        rw [eT]
        obtain ⟨H4, e4, s4, f4⟩ := gen H2 nT (.tup (pairT c))
        rw [e4]
        clear e4
        have s24 := s2.trans s4
        have s04 := s1.trans s24
        refine ⟨T2, pairT c, rfl, SqT.of f4, rfl, _, _, rfl, _, _, rfl, rfl, rfl, ?_⟩
        obtain ⟨r1, k1, x1, x2, x3⟩ := (t.same s04).entry fk w2 (by omega)
        obtain ⟨r2, k2, y1, y2, y3⟩ := (u.same s04).entry fl w2 (by omega)
        refine ⟨_, rfl, _, rfl, m, _, _, _, rfl, rfl, SqL.of (t.same s04).top, x1, _, rfl, r1, _, _, _, rfl, rfl, SqL.of x2, x3, _, rfl, _, rfl, m2, _, _, _, rfl, rfl, SqL.of (u.same s04).top, y1, _, rfl, r2, _, _, _, rfl, rfl, SqL.of y2, y3, rfl, _, rfl, ?_⟩
        obtain ⟨H5, eH⟩ : ∃ H5, H4 = H5 := ⟨_, rfl⟩
        rw [eH] at s4
        rw [eH]
        have s25 := s4
        have eb : (!decide (V.int (tieN kss c.2 c.1) = V.int (tieN lss c.2 c.1))) = !decide (tieN kss c.2 c.1 = tieN lss c.2 c.1) := by
          by_cases q : tieN kss c.2 c.1 = tieN lss c.2 c.1
          · simp [q]
          · simp [q]
        rw [eb]
        cases ha : (!decide (tieN kss c.2 c.1 = tieN lss c.2 c.1)) with
        | false =>
          refine iteF ⟨s2.trans s25, ts, R.same s25, ?_⟩
          rw [cpl_take ec, ha, if_neg (by decide), List.append_nil]
          exact e2
        | true =>
          refine iteT ⟨_, rfl, _, rfl, (by show 2 ≤ sizeLine; decide), fun p hp => ?_⟩
          obtain ⟨H6, e6, s6, f6⟩ := gen H5 hp (.tup [.int (c.1 : Nat), .int (c.2 : Nat)])
          rw [e6]
          clear e6
          have s26 := s25.trans s6
          have hp2 : H2 p = none := s25.free hp
          refine ⟨_, s26 _ _ R.top, ?_, fun b o e' => ?_, ts ++ [(p, c)], R.push s26 hp2 (s1.free (s2.free hp2)) f6, ?_⟩
          · have lt : ts.length ≤ (cplTo n n).length := by
              have := congrArg List.length e2
              rw [List.length_map] at this
              rw [this]
              exact Nat.le_trans (List.length_filter_le _ _) (by rw [List.length_take]; omega)
            rw [List.length_map, sizeLine_eq]
            omega
          · rw [upd_ne (ne_of_none e' hD)]
            exact s26 b o (s2 b o e')
          · rw [List.map_append, e2, cpl_take ec, ha]
            rfl
    · rintro H2 ⟨s2, ts, R, e2⟩
      rw [cl, List.take_length] at e2
      exact q D ts H2 (s1.trans s2) hD0 R e2

abbrev sStand : Stmt := topS 35
theorem scStand : FnScope ["kinds", "company", "couple", "one", "other"] ["kinds", "company", "couple"] (defScope sStand) := ⟨rfl, rfl, rfl, by decide +kernel, rfl, by decide +kernel, by decide +kernel⟩
theorem ok_stand {f : Addr} {fd : FuncData} (F : Fun K "stand_alike" "stand_alike" sStand f fd) (UC : Use P w K mg base "check_company" ["kinds", "company"] (spCheckC K) 5) (UP : Use P w K mg base "check_couple" ["company", "couple"] spCheckCp 4)
    (UT : Use P w K mg base "ties_of" ["company"] spTies 1) (UA : Use P w K mg base "are_alike" ["ties", "one", "other"] spAreAlike 1) : FnOk P w K mg base CX0 6 f fd ["kinds", "company", "couple"] spStand := by
  refine F.ok scStand (fun vs H Q E h => ?_) (fun cdv A outer s H vs Q E hr h => ?_)
  · obtain ⟨kss, p, a, _⟩ := h
    obtain ⟨k, c, t, rs, rfl, _⟩ := a.ex
    rfl
  · obtain ⟨kss, p, a, q⟩ := h
    obtain ⟨k, c, tp, rs, rfl, k2, k9, t, fine, ht⟩ := a.ex
    have hr1 : Room 1 (A.deeper (envOfC "stand_alike" (defScope sStand) s.heap.objs.size f cdv)) := hr.mono (by decide)
    refine ⟨_, pss_cons (ps_expr (pe_use UC hr (by rfl) (pa_cons (pv 0) (pa_cons (pv 1) pa_nil)))) (pss_cons (ps_expr (pe_use UP (hr.mono (by decide)) (by rfl) (pa_cons (pv 1) (pa_cons (pv 2) pa_nil))))
      (pss_cons (ps_asg (pv 2) (pg_tup rfl (pgs_cons (pg_name (i := 3) scStand.nd rfl (Or.inl rfl)) (pgs_cons (pg_name (i := 4) scStand.nd rfl (Or.inl rfl)) pgs_nil))))
      (pss_one (ps_ret (pe_use UA hr1 (by rfl) (pa_cons (pe_use UT hr1 (by rfl) (pa_cons (pv 1) pa_nil)) (pa_cons (pv 3) (pa_cons (pv 4) pa_nil)))))))), ?_⟩
    refine ⟨_, rfl, _, rfl, k, .ref c, tabP kss, rfl, k2, k9, t.dt, fine.comp a.one a.most, fun H1 s1 => ?_⟩
    have t1 := t.same s1
    have l100 : kss.length ≤ 100 := by have := a.most; omega
    refine ⟨_, rfl, _, rfl, c, tp, rs.map V.ref, p, rfl, t1.top, s1 _ _ ht, a.lt, by rw [List.length_map, t.len]; exact a.low, ?_⟩
    refine ⟨_, rfl, tp, pairT p, rfl, SqT.of (s1 _ _ ht), rfl, _, _, rfl, _, _, rfl, rfl, ?_⟩
    refine ⟨_, rfl, c, rs, kss, k, rfl, t1, fine, l100, fun m ps H2 s2 M _ => ?_⟩
    have := a.lt
    have := a.low
    exact ⟨_, rfl, _, rfl, m, ps, kss, p.1, p.2, rfl, M, l100, by omega, by omega, by omega, fun H3 s3 => q _ (s1.trans (s2.trans s3))⟩

abbrev sAmong : Stmt := topS 36
theorem scAmong : FnScope ["kinds", "company", "lot"] ["kinds", "company", "lot"] (defScope sAmong) := ⟨rfl, rfl, rfl, by decide +kernel, rfl, by decide +kernel, by decide +kernel⟩
theorem ok_among {f : Addr} {fd : FuncData} (F : Fun K "among" "among" sAmong f fd) (UC : Use P w K mg base "check_company" ["kinds", "company"] (spCheckC K) 5) (UL : Use P w K mg base "check_lot" ["company", "lot"] spCheckL 4) (UA : Use P w K mg base "company_among" ["company", "lot"] spAmongC 1) :
    FnOk P w K mg base CX0 6 f fd ["kinds", "company", "lot"] spAmong := by
  refine F.ok scAmong (fun vs H Q E h => ?_) (fun cdv A outer s H vs Q E hr h => ?_)
  · obtain ⟨k, c, o, rs, kss, l, rfl, _⟩ := h
    rfl
  · obtain ⟨k, c, o, rs, kss, l, rfl, k2, k9, t, fine, m1, m40, ho, lot, q⟩ := h
    refine ⟨_, pss_cons (ps_expr (pe_use UC hr (by rfl) (pa_cons (pv 0) (pa_cons (pv 1) pa_nil)))) (pss_cons (ps_expr (pe_use UL (hr.mono (by decide)) (by rfl) (pa_cons (pv 1) (pa_cons (pv 2) pa_nil))))
      (pss_one (ps_ret (pe_use UA (hr.mono (by decide)) (by rfl) (pa_cons (pv 1) (pa_cons (pv 2) pa_nil)))))), ?_⟩
    refine ⟨_, rfl, _, rfl, k, .ref c, tabP kss, rfl, k2, k9, t.dt, fine.comp m1 m40, fun H1 s1 => ?_⟩
    refine ⟨_, rfl, _, rfl, c, o, rs.map V.ref, l, rfl, s1 _ _ t.top, by rw [List.length_map, t.len]; omega, s1 _ _ ho, by rw [List.length_map, t.len]; exact lot, fun H2 s2 => ?_⟩
    have s12 := s1.trans s2
    exact ⟨_, rfl, _, rfl, c, o, rs, kss, k, l, rfl, t.same s12, fine, by omega, s12 _ _ ho, lot, fun p ps H3 s3 u np hp hn => q p ps H3 (s12.trans s3) u np (s12.free hp) fun r hr => s12.free (hn r hr)⟩

abbrev sDiffer : Stmt := topS 37
theorem scDiffer : FnScope ["kinds", "one", "other"] ["kinds", "one", "other"] (defScope sDiffer) := ⟨rfl, rfl, rfl, by decide +kernel, rfl, by decide +kernel, by decide +kernel⟩
theorem ok_differ {f : Addr} {fd : FuncData} (F : Fun K "differing" "differing" sDiffer f fd) (UC : Use P w K mg base "check_companies" ["kinds", "one", "other"] spCheckCs 6) (UA : Use P w K mg base "couples_unlike" ["one", "other"] spUnlikeC 1) :
    FnOk P w K mg base CX0 7 f fd ["kinds", "one", "other"] spDiffer := by
  refine F.ok scDiffer (fun vs H Q E h => ?_) (fun cdv A outer s H vs Q E hr h => ?_)
  · obtain ⟨k, c, d, rs, ps, kss, lss, rfl, _⟩ := h
    rfl
  · obtain ⟨k, c, d, rs, ps, kss, lss, rfl, k2, k9, t, u, fk, fl, m1, m40, el, q⟩ := h
    refine ⟨_, pss_cons (ps_expr (pe_use UC hr (by rfl) (pa_cons (pv 0) (pa_cons (pv 1) (pa_cons (pv 2) pa_nil)))))
      (pss_one (ps_ret (pe_use UA (hr.mono (by decide)) (by rfl) (pa_cons (pv 1) (pa_cons (pv 2) pa_nil))))), ?_⟩
    refine ⟨_, rfl, _, rfl, _, rfl, k, c, d, rs, ps, kss, lss, rfl, k2, k9, t, u, fk, fl, m1, m40, el, fun H1 s1 => ?_⟩
    exact ⟨_, rfl, _, rfl, c, d, rs, ps, kss, lss, k, rfl, t.same s1, u.same s1, fk, fl, by omega, el, fun p ts H3 s3 hp R e => q p ts H3 (s1.trans s3) (s1.free hp) (R.back s1) e⟩

end
end K03

/-! A tuple of a couple and a kind. -/
namespace GL
open PySem PySem.Spec PyProof.Rows
open L2
def kindOk (k : Int) : PyData → Bool
  | .tuple [_, _, z] => below k z
  | _ => false
def cplKB (n k : Int) (d : PyData) : Bool := headOk n d && kindOk k d
def spCplK (K : PySem.W.Frag) : Sp := fun vs H Q _ => ∃ (k n : Int) (x : V) (d : PyData), vs = [.int k, .int n, x] ∧ Dt K H x d ∧ ∀ H', Same H H' → Q (.bl (cplKB n k d)) H'
theorem cplK_nat {n k : Int} {d : PyData} (h : cplKB n k d = true) : ∃ (a b : Nat) (v : Int), d = .tuple [.int (a : Nat), .int (b : Nat), .int v] ∧ a < b ∧ (b : Int) < n ∧ 0 ≤ v ∧ v < k := by
  unfold cplKB at h
  rw [Bool.and_eq_true] at h
  obtain ⟨a, b, z, rfl, h1, h2⟩ := head_nat h.1
  obtain ⟨v, rfl, v0, v1⟩ := below_int (show below k z = true from h.2)
  exact ⟨a, b, v, rfl, h1, h2, v0, v1⟩
theorem cplK_not {k : Int} {kss : List (List Int)} {d : PyData} (h : cplKB (kss.length : Nat) k d = false) : deedB k kss d = false := by
  cases e : deedB k kss d with
  | false => rfl
  | true =>
    obtain ⟨a, b, v, rfl, ab, bn, v0, v1, _, _⟩ := deed_nat e
    have h1 : cplKB (kss.length : Nat) k (.tuple [.int (a : Nat), .int (b : Nat), .int v]) = ((below (kss.length : Nat) (.int (b : Nat)) && below (b : Nat) (.int (a : Nat))) && below k (.int v)) := rfl
    rw [h1, below_of (by omega) (by omega), below_of (by omega) (by omega), below_of v0 v1] at h
    cases h
end GL

namespace K03
open PySem PySem.Spec PyProof.Rows
open L2
open GL
section
variable {P : Program} {w : World} {K : PySem.W.Frag} {mg : Str → Option Value} {base : Heap}
abbrev sCompWith : Stmt := topS 28
abbrev nCompWith : List Str := ["ties", "person", "row"]
theorem scCompWith : FnScope nCompWith ["ties"] (defScope sCompWith) := ⟨rfl, rfl, rfl, by decide +kernel, rfl, by decide +kernel, by decide +kernel⟩
theorem ok_compWith {f : Addr} {fd : FuncData} (F : Fun K "company_with" "company_with" sCompWith f fd) (T : Bi mg) : FnOk P w K mg base CX0 1 f fd ["ties"] spCompWith := by
  refine F.ok scCompWith (fun vs H Q E h => ?_) (fun cdv A outer s H vs Q E hr h => ?_)
  · obtain ⟨m, ps, kss, k, rfl, _⟩ := h
    rfl
  · obtain ⟨m, ps, kss, k, rfl, M, fine, n100, q⟩ := h
    refine ⟨_, (pss_one (ps_ret (pe_lc (own := [("person", 1), ("row", 2)]) (g := (gTup K 2 (gCons (gName 1) (gCons (gName 2) gNil)))) (tt := tYes) (te := (tSl (rSlL K) (tVar 2) tNoPart (tPart (tVar 1)))) rfl scCompWith.nd (pi_enum (by rfl) T.enumerate (pa_cons (pv 0) pa_nil))
            (blkOk_by (N := nCompWith) (sc := (defScope sCompWith)) (by decide +kernel)) (fun _ _ _ _ _ => (pg_tup rfl (pgs_cons (pg_name (i := 1) scCompWith.nd rfl (Or.inl rfl)) (pgs_cons (pg_name (i := 2) scCompWith.nd rfl (Or.inl rfl)) pgs_nil)))) (fun _ _ _ _ _ => by exact pts_nil)
            (fun _ _ _ _ _ => by exact (pe_slice sl_list (pv 2) po_none (po_some (pv 1))))))), ?_⟩
    obtain ⟨n, hn⟩ : ∃ n, kss.length = n := ⟨_, rfl⟩
    have lp : (ps.map V.ref).length = n := by rw [List.length_map, M.len, hn]
    refine ⟨_, rfl, m, _, rfl, SqL.of M.top, fun D hD => ?_⟩
    refine lc_objs (walk_enum (K := K) (a := m) (xs := ps.map V.ref)) (fun i => .lst ((kss.getD i []).map V.int)) hD (by rw [lp, sizeLine_eq]; omega) (fun H' s' => SqL.of (s' _ _ M.top)) ?_ ?_
    · rintro i x H2 H3 N hi s2 ⟨T2, x1, x2, rfl, nT, rfl, e1, e2⟩ hN
      rw [lp] at hi
      cases e1
      obtain ⟨r, r1, r2⟩ := M.at (i := i) (by omega)
      have e2' : (ps.map V.ref)[i]? = some x2 := e2
      rw [List.getElem?_map, r1] at e2'
      cases e2'
      obtain ⟨H4, e4, s4, f4⟩ := gen H2 nT (.tup [.int (i : Nat), .ref r])
      rw [e4]
      clear e4
      refine ⟨T2, _, rfl, SqT.of f4, rfl, _, _, rfl, _, _, rfl, rfl, rfl, ?_⟩
      refine ⟨_, rfl, _, rfl, _, rfl, r, _, rfl, SqL.of (s4 _ _ (s2 _ _ r2)), fun c hc => ?_⟩
      obtain ⟨H5, e5, s5, f5⟩ := gen H4 hc (.lst (cutV ((List.range kss.length).map (tieV kss i)) none (some ((i : Nat) : Int))))
      rw [e5]
      refine hN H5 c (s4.trans s5) (s4.free hc) ?_
      rw [f5, cut_to (by rw [List.length_map, List.length_range]; omega)]
      congr 2
      have lk := fine.row_len (i := i) (by omega)
      apply List.ext_getElem
      · rw [List.length_take, List.length_map, List.length_range, List.length_map, lk]
        omega
      · intro j h1 h2
        rw [List.length_map, lk] at h2
        rw [List.getElem_take, List.getElem_map, List.getElem_range, List.getElem_map]
        unfold tieV
        rw [if_neg (by omega)]
        unfold tieN
        rw [Nat.max_eq_left (by omega), Nat.min_eq_right (by omega), List.getD_eq_getElem?_getD, List.getElem?_eq_getElem (by rw [lk]; exact h2)]
        rfl
    · intro H2 rs s2 R
      rw [lp, ← hn] at R
      exact q D rs H2 s2 hD R
abbrev sCplK : Stmt := topS 19
abbrev nCplK : List Str := ["kinds", "many", "value"]
theorem scCplK : FnScope nCplK ["kinds", "many", "value"] (defScope sCplK) := ⟨rfl, rfl, rfl, by decide +kernel, rfl, by decide +kernel, by decide +kernel⟩
theorem ok_cplK {f : Addr} {fd : FuncData} (F : Fun K "is_couple_with_kind" "is_couple_with_kind" sCplK f fd) (T : Bi mg) (Uisbelow : Use P w K mg base "is_below" ["value", "bound"] (spBelow K) 2) (Uiscouple : Use P w K mg base "is_couple" ["many", "value"] (spCoupleD K) 3) : FnOk P w K mg base CX0 4 f fd ["kinds", "many", "value"] (spCplK K) := by
  refine F.ok scCplK (fun vs H Q E h => ?_) (fun cdv A outer s H vs Q E hr h => ?_)
  · obtain ⟨k, n, x, d, rfl, _⟩ := h
    rfl
  · obtain ⟨k, n, x, d, rfl, hd, q⟩ := h
    refine ⟨_, (pss_cons (ps_if (PW.pt (pw_or (pt_not (pt_val (pe_callB call_isi (by rfl) T.isinstance (by decide +kernel) (pa_cons (pv 2) (pa_cons (pe_bltn (v := .ty "tuple") (by rfl) T.tuple (by decide +kernel) rfl) pa_nil))))) (pw_or1 (pt_cmpR op_ne (pe_callB call_len_seq (by rfl) T.len PySem.boot_len (pa_cons (pv 2) pa_nil)) pe_int (nomark _)))))
        (pss_one (ps_ret pe_bl)) pss_nil)
      (pss_one (ps_ret (pe_and (pe_use Uiscouple hr (by rfl) (pa_cons (pv 1) (pa_cons (pe_slice sl_tup (pv 2) po_none (po_some pe_int)) pa_nil))) (pe_one (pe_use Uisbelow (hr.mono (by decide)) (by rfl) (pa_cons (pe_ix ix_tup (pv 2) pe_int (fun _ _ => rfl)) (pa_cons (pv 0) pa_nil)))))))), ?_⟩
    refine ⟨_, rfl, _, _, _, _, _, rfl, .ty "tuple", hd.ty, kit_tuple d, _, rfl, ?_⟩
    by_cases e : ∃ ds, d = .tuple ds
    · obtain ⟨ds, rfl⟩ := e
      cases hd with
      | tup ht hx =>
        rename_i t xs
        have lx := hx.length
        refine iteF ⟨_, rfl, t, _, rfl, .inr (SqT.of ht), rfl, _, rfl, ?_⟩
        by_cases l3 : ds.length = 3
        · match ds, l3, xs, hx with
          | [y, z, u], _, [vy, vz, vu], .cons hy (.cons hz (.cons hu .nil)) =>
            refine iteF ?_
            refine ⟨_, rfl, _, rfl, 2, rfl, t, _, rfl, SqT.of ht, ?_, fun p hp => ?_⟩
            · rintro ⟨_, h2⟩
              rw [show HT.sIx [vy, vz, vu].length [vy, vz, vu].length (some 2) = min 2 3 from HT.sIx_nat _ _ 2] at h2
              cases h2
            · have ec : cutV [vy, vz, vu] none (some 2) = [vy, vz] := cut_to (xs := [vy, vz, vu]) (i := 2) (by show 2 ≤ 3; decide)
              rw [ec]
              obtain ⟨H1, e1, s1, f1⟩ := gen H hp (.tup [vy, vz])
              rw [e1]
              clear e1
              refine ⟨n, _, .tuple [y, z], rfl, .tup f1 (.cons (hy.same s1) (.cons (hz.same s1) .nil)), _, rfl, ?_⟩
              have q' := q H1 s1
              have cc : cplKB n k (.tuple [y, z, u]) = (cplD n (.tuple [y, z]) && below k u) := rfl
              rw [cc] at q'
              cases bc : cplD n (.tuple [y, z]) with
              | false =>
                rw [bc] at q'
                exact iteF q'
              | true =>
                rw [bc] at q'
                exact iteT ⟨_, rfl, t, _, _, _, rfl, rfl, SqT.of (s1 _ _ ht), at_of (j := 2) rfl rfl, _, rfl, vu, u, k, rfl, hu.same s1, q'⟩
        · have ne : ¬ ((xs.length : Nat) : Int) = 3 := by omega
          have ez : decide (V.int ((xs.length : Nat) : Int) = V.int 3) = false := decide_eq_false fun z => ne (by injection z)
          rw [ez]
          refine iteT ?_
          have cc : cplKB n k (.tuple ds) = false := by
            match ds, l3 with
            | [], _ => rfl
            | [a], _ => rfl
            | [a, b], _ => rfl
            | a :: b :: c :: e :: l, _ => rfl
          have q' := q H (Same.refl _)
          rw [cc] at q'
          exact q'
    · have z : isTup d = false ∧ cplKB n k d = false := by
        cases d with
        | tuple ds => exact (e ⟨ds, rfl⟩).elim
        | _ => exact ⟨rfl, rfl⟩
      rw [z.1]
      refine iteT (iteT ?_)
      have q' := q H (Same.refl _)
      rw [z.2] at q'
      exact q'
abbrev sDeedNow : Stmt := topS 33
abbrev nDeedNow : List Str := ["kinds", "ties", "value", "one", "other", "kind"]
theorem scDeedNow : FnScope nDeedNow ["kinds", "ties", "value"] (defScope sDeedNow) := ⟨rfl, rfl, rfl, by decide +kernel, rfl, by decide +kernel, by decide +kernel⟩
theorem ok_deedNow {f : Addr} {fd : FuncData} (F : Fun K "is_deed_now" "is_deed_now" sDeedNow f fd) (T : Bi mg) (Uiscouplewithkind : Use P w K mg base "is_couple_with_kind" ["kinds", "many", "value"] (spCplK K) 4) (Uarealike : Use P w K mg base "are_alike" ["ties", "one", "other"] spAreAlike 1) : FnOk P w K mg base CX0 5 f fd ["kinds", "ties", "value"] (spDeedNow K) := by
  refine F.ok scDeedNow (fun vs H Q E h => ?_) (fun cdv A outer s H vs Q E hr h => ?_)
  · obtain ⟨k, m, x, d, ps, kss, rfl, _⟩ := h
    rfl
  · obtain ⟨k, m, x, d, ps, kss, rfl, M, n40, hd, q⟩ := h
    refine ⟨_, (pss_cons (ps_if (pt_not (pt_val (pe_use Uiscouplewithkind hr (by rfl) (pa_cons (pv 0) (pa_cons (pe_callB call_len_seq (by rfl) T.len PySem.boot_len (pa_cons (pv 1) pa_nil)) (pa_cons (pv 2) pa_nil))))))
        (pss_one (ps_ret pe_bl)) pss_nil)
      (pss_cons (ps_asg (pv 2)
          (pg_tup rfl (pgs_cons (pg_name (i := 3) scDeedNow.nd rfl (Or.inl rfl)) (pgs_cons (pg_name (i := 4) scDeedNow.nd rfl (Or.inl rfl)) (pgs_cons (pg_name (i := 5) scDeedNow.nd rfl (Or.inl rfl)) pgs_nil)))))
      (pss_one (ps_ret (pe_and (pe_cmpR op_ne (pv 5) (pe_ix ix_list (pe_ix ix_list (pv 1) (pv 3) (fun _ _ => rfl)) (pv 4) (fun _ _ => rfl)) (nomark _)) (pe_one (pe_use Uarealike (hr.mono (by decide)) (by rfl) (pa_cons (pv 1) (pa_cons (pv 3) (pa_cons (pv 4) pa_nil)))))))))), ?_⟩
    obtain ⟨n, hn⟩ : ∃ n, kss.length = n := ⟨_, rfl⟩
    have lp : (ps.map V.ref).length = n := by rw [List.length_map, M.len, hn]
    refine ⟨_, rfl, _, rfl, m, _, rfl, .inl (SqL.of M.top), _, rfl, ?_⟩
    rw [lp]
    refine ⟨k, (n : Nat), x, d, rfl, hd, fun H' s1 => ⟨_, rfl, ?_⟩⟩
    have q' := q H' s1
    cases bk : cplKB (n : Nat) k d with
    | false =>
      refine iteT ?_
      rw [← hn] at bk
      rw [cplK_not bk] at q'
      exact q'
    | true =>
      refine iteF ?_
      obtain ⟨a, b, v, rfl, ab, bn, v0, v1⟩ := cplK_nat bk
      have hd1 := hd.same s1
      cases hd1 with
      | tup ht hx =>
        rename_i t xs
        cases hx with
        | cons hxa hx =>
          cases hxa
          cases hx with
          | cons hxb hx =>
            cases hxb
            cases hx with
            | cons hxz hx =>
              cases hx
              cases hxz
              refine ⟨_, rfl, t, _, rfl, SqT.of ht, rfl, _, _, rfl, _, _, rfl, _, _, rfl, rfl, ?_⟩
              have M1 := M.same s1
              obtain ⟨ra, a1, a2⟩ := M1.at (i := a) (by omega)
              refine ⟨_, rfl, _, rfl, _, rfl, m, _, _, _, rfl, rfl, SqL.of M1.top, atI_nat (by rw [List.getElem?_map, a1]; rfl), _, rfl, ra, _, _, _, rfl, rfl, SqL.of a2, atI_nat (j := b) (v := .int (tieN kss a b)) ?_, rfl, _, rfl, ?_⟩
              · rw [List.getElem?_map, List.getElem?_range (by omega)]
                show some (tieV kss a b) = _
                unfold tieV
                rw [if_neg (by omega)]
              · have fd : decide (V.int v = V.int (tieN kss a b)) = decide (v = tieN kss a b) := decide_eq_decide.mpr ⟨fun z => by injection z, fun z => by rw [z]⟩
                rw [fd]
                have dB := deed_of (k := k) (kss := kss) (v := v) ab (by omega : b < kss.length)
                rw [below_of v0 v1, Bool.true_and] at dB
                rw [dB] at q'
                cases e0 : decide (v = tieN kss a b) with
                | true =>
                  rw [e0] at q'
                  exact iteF q'
                | false =>
                  rw [e0] at q'
                  refine iteT ⟨_, rfl, _, rfl, _, rfl, m, ps, kss, a, b, rfl, M1, by omega, by omega, by omega, by omega, fun H2 s2 => ?_⟩
                  have q2 := q H2 (s1.trans s2)
                  rw [dB, e0] at q2
                  exact q2
abbrev sFollowed : Stmt := topS 34
abbrev nFollowed : List Str := ["kinds", "company", "road", "ties", "place", "deed", "one", "other", "kind"]
theorem scFollowed : FnScope nFollowed ["kinds", "company", "road"] (defScope sFollowed) := ⟨rfl, rfl, rfl, by decide +kernel, rfl, by decide +kernel, by decide +kernel⟩
theorem ok_followed {f : Addr} {fd : FuncData} (F : Fun K "followed" "followed" sFollowed f fd) (T : Bi mg) (Utiesof : Use P w K mg base "ties_of" ["company"] spTies 1) (Ucompanywith : Use P w K mg base "company_with" ["ties"] spCompWith 1) (Uisdeednow : Use P w K mg base "is_deed_now" ["kinds", "ties", "value"] (spDeedNow K) 5) : FnOk P w K mg base CX0 6 f fd ["kinds", "company", "road"] (spFollowed K) := by
  refine F.ok scFollowed (fun vs H Q E h => ?_) (fun cdv A outer s H vs Q E hr h => ?_)
  · obtain ⟨k, c, r, rs, kss, xs, ds, rfl, _⟩ := h
    rfl
  · obtain ⟨k, c, r, rs, kss, xs, ds, rfl, t, fine, n40, hr0, hd, big, q⟩ := h
    refine ⟨_, (pss_cons (ps_set (i := 3) scFollowed.nd rfl (Or.inl rfl) (pe_use Utiesof (hr.mono (by decide)) (by rfl) (pa_cons (pv 1) pa_nil)))
      (pss_cons (ps_for PassesOwn.never rfl (pi_enum (by rfl) T.enumerate (pa_cons (pv 2) pa_nil)) (pg_tup rfl (pgs_cons (pg_name (i := 4) scFollowed.nd rfl (Or.inl rfl)) (pgs_cons (pg_name (i := 5) scFollowed.nd rfl (Or.inl rfl)) pgs_nil)))
        (pss_cons (ps_if (pt_not (pt_val (pe_use Uisdeednow hr (by rfl) (pa_cons (pv 0) (pa_cons (pv 3) (pa_cons (pv 5) pa_nil))))))
          (pss_one (ps_ret (pe_tup (pa_cons (pe_use Ucompanywith (hr.mono (by decide)) (by rfl) (pa_cons (pv 3) pa_nil)) (pa_cons (pv 4) pa_nil))))) pss_nil)
        (pss_cons (ps_asg (pv 5)
            (pg_tup rfl (pgs_cons (pg_name (i := 6) scFollowed.nd rfl (Or.inl rfl)) (pgs_cons (pg_name (i := 7) scFollowed.nd rfl (Or.inl rfl)) (pgs_cons (pg_name (i := 8) scFollowed.nd rfl (Or.inl rfl)) pgs_nil)))))
        (pss_cons (ps_asg (pv 8)
            (pg_sub (pe_ix ix_list (pv 3) (pv 6) (fun _ _ => rfl)) (pv 7) set_list))
        (pss_one (ps_asg (pv 8)
            (pg_sub (pe_ix ix_list (pv 3) (pv 7) (fun _ _ => rfl)) (pv 6) set_list)))))))
      (pss_one (ps_ret (pe_tup (pa_cons (pe_use Ucompanywith (hr.mono (by decide)) (by rfl) (pa_cons (pv 3) pa_nil)) (pa_cons (pe_callB call_len_seq (by rfl) T.len PySem.boot_len (pa_cons (pv 2) pa_nil)) pa_nil))))))), ?_⟩
    refine ⟨_, rfl, c, rs, kss, k, rfl, t, fine, by omega, fun m ps H1 s1 M newR => ?_⟩
    obtain ⟨n, hn⟩ : ∃ n, kss.length = n := ⟨_, rfl⟩
    have hdat : ∀ {H' : Hp}, Same H H' → H' r = some (.lst xs) ∧ Dts K H' xs ds := fun s => ⟨s _ _ hr0, Dts.same s ds _ hd⟩
    have lxd := hd.length
    refine ⟨_, rfl, r, xs, rfl, SqL.of (s1 _ _ hr0), ?_⟩
    refine for_it (walk_enum (K := K) (a := r) (xs := xs)) (fun i σ H' => ∃ (pv dv ov tv kv : Option V) (ks : List (List Int)), σ = [some (.int k), some (.ref c), some (.ref r), some (.ref m), pv, dv, ov, tv, kv] ∧ Same H H' ∧ Mat H' m ps ks.length (tieV ks) ∧ Fine k ks ∧ ks.length = n ∧ followK k kss ds 0 = followK k ks (ds.drop i) i)
      ⟨_, _, _, _, _, kss, rfl, s1, M, fine, hn, rfl⟩ (fun i σ H' _ z => by
        obtain ⟨_, _, _, _, _, _, _, s', _⟩ := z
        exact SqL.of (s' _ _ hr0)) ?_ ?_
    · rintro i y σ H2 H3 hi ⟨pv, dv, ov, tv, kv, ks, rfl, s2, M2, f2, l2, fo⟩ ⟨T2, x1, x2, rfl, nT, rfl, e1, e2⟩
      cases e1
      have e2' : xs[i]? = some x2 := e2
      obtain ⟨d, di, dd⟩ := hd.get e2'
      obtain ⟨H4, e4, s4, f4⟩ := gen H2 nT (.tup [.int (i : Nat), x2])
      rw [e4]
      clear e4
      have s24 := s2.trans s4
      have dr : ds.drop i = d :: ds.drop (i + 1) := by
        have hl := (List.getElem?_eq_some_iff.mp di)
        rw [List.drop_eq_getElem_cons hl.1, hl.2]
      rw [dr, follow_cons] at fo
      refine ⟨T2, _, rfl, SqT.of f4, rfl, _, _, rfl, _, _, rfl, rfl, ?_⟩
      refine ⟨_, rfl, _, rfl, _, rfl, k, m, x2, d, ps, ks, rfl, M2.same s4, by omega, dd.same s24, fun H5 s5 => ⟨_, rfl, ?_⟩⟩
      have M5 := (M2.same s4).same s5
      have s25 := s24.trans s5
      cases hB : deedB k ks d with
      | false =>
        rw [hB, if_neg (by decide)] at fo
        refine iteT ⟨_, rfl, m, ps, ks, k, rfl, M5, f2, by omega, fun p qs H6 s6 np R => ?_⟩
        refine ⟨_, rfl, (by show 2 ≤ sizeLine; decide), fun T3 hT3 => ?_⟩
        obtain ⟨H7, e7, s7, f7⟩ := gen H6 hT3 (.tup [.ref p, .int (i : Nat)])
        rw [e7]
        clear e7
        have R7 := R.same s7
        refine q T3 p qs H7 (s25.trans (s6.trans s7)) (by rw [f7, fo]) (by rw [fo]; exact R7.tab rfl) (s25.free np) R.out fun x hx => s25.free (R.new x hx)
      | true =>
        rw [hB, if_pos rfl] at fo
        refine iteF ?_
        obtain ⟨a, b, v, rfl, ab, bn, v0, v1, _, al⟩ := deed_nat hB
        have st := deed_step hB
        have d5 := dd.same s25
        cases d5 with
        | tup ht hx =>
          rename_i t zs
          cases hx with
          | cons hxa hx =>
            cases hxa
            cases hx with
            | cons hxb hx =>
              cases hxb
              cases hx with
              | cons hxz hx =>
                cases hxz
                cases hx
                refine ⟨_, rfl, t, _, rfl, SqT.of ht, rfl, _, _, rfl, _, _, rfl, _, _, rfl, rfl, ?_⟩
                obtain ⟨ra, a1, a2⟩ := M5.at (i := a) (by omega)
                obtain ⟨rb, b1, b2⟩ := M5.at (i := b) (by omega)
                obtain ⟨ya, yb, y1, y2, y3, y4, M6⟩ := M5.tie (v := v) f2 ab bn a1 b1
                have naH : H ra = none := newR ra (List.mem_of_getElem? a1)
                have nbH : H rb = none := newR rb (List.mem_of_getElem? b1)
                refine ⟨_, rfl, _, rfl, _, rfl, m, _, _, _, rfl, rfl, SqL.of M5.top, atI_nat (by rw [List.getElem?_map, a1]; rfl), _, rfl, ra, _, _, b, rfl, rfl, y1, ixN_nat (j := b) (by rw [y2]; omega), ?_⟩
                have M5' : (upd H5 ra (.lst (ya.set b (.int v)))) m = some (.lst (ps.map V.ref)) := by
                  rw [upd_ne (fun z => M5.np (by rw [z]; exact List.mem_of_getElem? a1))]
                  exact M5.top
                refine ⟨_, rfl, _, rfl, _, rfl, m, _, _, _, rfl, rfl, SqL.of M5', atI_nat (by rw [List.getElem?_map, b1]; rfl), _, rfl, rb, _, _, a, rfl, rfl, y3, ixN_nat (j := a) (by rw [y4]; omega), ?_⟩
                refine ⟨_, _, _, _, _, setT ks b a v, rfl, fun x o e0 => ?_, M6, setT_fine f2 bn v0 v1, (setT_len ..).trans l2, fo⟩
                rw [upd_ne (ne_of_none e0 nbH), upd_ne (ne_of_none e0 naH)]
                exact s25 _ _ e0
    · rintro σ H2 ⟨pv, dv, ov, tv, kv, ks, rfl, s2, M2, f2, l2, fo⟩
      have dz : ds.drop xs.length = [] := by rw [lxd]; exact List.drop_length ..
      rw [dz] at fo
      have fo' : followK k kss ds 0 = (ks, xs.length) := fo
      refine ⟨_, rfl, m, ps, ks, k, rfl, M2, f2, by omega, fun p qs H6 s6 np R => ?_⟩
      refine ⟨_, rfl, r, xs, rfl, .inl (SqL.of (s6 _ _ (s2 _ _ hr0))), (by show 2 ≤ sizeLine; decide), fun T3 hT3 => ?_⟩
      obtain ⟨H7, e7, s7, f7⟩ := gen H6 hT3 (.tup [.ref p, .int ((xs.length : Nat) : Int)])
      rw [e7]
      clear e7
      have R7 := R.same s7
      refine q T3 p qs H7 (s2.trans (s6.trans s7)) (by rw [f7, fo']) (by rw [fo']; exact R7.tab rfl) (s2.free np) R.out fun x hx => s2.free (R.new x hx)
end
end K03

namespace K03
open PySem PySem.Spec PyProof.Rows
open L2
open GL
section
variable {P : Program} {w : World} {K : PySem.W.Frag} {mg : Str → Option Value} {base : Heap}
abbrev sIsDeed : Stmt := topS 38
abbrev nIsDeed : List Str := ["kinds", "company", "value"]
theorem scIsDeed : FnScope nIsDeed ["kinds", "company", "value"] (defScope sIsDeed) := ⟨rfl, rfl, rfl, by decide +kernel, rfl, by decide +kernel, by decide +kernel⟩
theorem ok_isDeed {f : Addr} {fd : FuncData} (F : Fun K "is_deed" "is_deed" sIsDeed f fd) (T : Bi mg) (Ucheckcompany : Use P w K mg base "check_company" ["kinds", "company"] (spCheckC K) 5) (Utiesof : Use P w K mg base "ties_of" ["company"] spTies 1) (Uisdeednow : Use P w K mg base "is_deed_now" ["kinds", "ties", "value"] (spDeedNow K) 5) : FnOk P w K mg base CX0 6 f fd ["kinds", "company", "value"] (spIsDeed K) := by
  refine F.ok scIsDeed (fun vs H Q E h => ?_) (fun cdv A outer s H vs Q E hr h => ?_)
  · obtain ⟨k, c, x, d, rs, kss, rfl, _⟩ := h
    rfl
  · obtain ⟨k, c, x, d, rs, kss, rfl, k2, k9, t, fine, m1, m40, hd, q⟩ := h
    refine ⟨_, (pss_cons (ps_expr (pe_use Ucheckcompany hr (by rfl) (pa_cons (pv 0) (pa_cons (pv 1) pa_nil))))
      (pss_one (ps_ret (pe_use Uisdeednow hr (by rfl) (pa_cons (pv 0) (pa_cons (pe_use Utiesof (hr.mono (by decide)) (by rfl) (pa_cons (pv 1) pa_nil)) (pa_cons (pv 2) pa_nil))))))), ?_⟩
    refine ⟨_, rfl, _, rfl, k, .ref c, tabP kss, rfl, k2, k9, t.dt, fine.comp m1 m40, fun H1 s1 => ?_⟩
    refine ⟨_, rfl, _, rfl, c, rs, kss, k, rfl, t.same s1, fine, by omega, fun m ps H2 s2 M _ => ?_⟩
    refine ⟨_, rfl, k, m, x, d, ps, kss, rfl, M, m40, hd.same (s1.trans s2), fun H3 s3 => q H3 (s1.trans (s2.trans s3))⟩
abbrev sDeeds : Stmt := topS 39
abbrev nDeeds : List Str := ["kinds", "company", "couples", "one", "other", "kind"]
theorem scDeeds : FnScope nDeeds ["kinds", "company"] (defScope sDeeds) := ⟨rfl, rfl, rfl, by decide +kernel, rfl, by decide +kernel, by decide +kernel⟩
theorem ok_deeds {f : Addr} {fd : FuncData} (F : Fun K "deeds" "deeds" sDeeds f fd) (T : Bi mg) (Ucheckcompany : Use P w K mg base "check_company" ["kinds", "company"] (spCheckC K) 5) (Utiesof : Use P w K mg base "ties_of" ["company"] spTies 1) (Ucouplesalike : Use P w K mg base "couples_alike" ["ties"] spCplAlike 2) : FnOk P w K mg base CX0 6 f fd ["kinds", "company"] spDeeds := by
  refine F.ok scDeeds (fun vs H Q E h => ?_) (fun cdv A outer s H vs Q E hr h => ?_)
  · obtain ⟨k, c, rs, kss, rfl, _⟩ := h
    rfl
  · obtain ⟨k, c, rs, kss, rfl, k2, k9, t, fine, m1, m40, q⟩ := h
    refine ⟨_, (pss_cons (ps_expr (pe_use Ucheckcompany hr (by rfl) (pa_cons (pv 0) (pa_cons (pv 1) pa_nil))))
      (pss_cons (ps_set (i := 2) scDeeds.nd rfl (Or.inl rfl) (pe_use Ucouplesalike (hr.mono (by decide)) (by rfl) (pa_cons (pe_use Utiesof (hr.mono (by decide)) (by rfl) (pa_cons (pv 1) pa_nil)) pa_nil)))
      (pss_one (ps_ret (pe_lc2 (own := [("one", 3), ("other", 4), ("kind", 5)]) (vs1 := [5]) (g := (gTup K 2 (gCons (gName 3) (gCons (gName 4) gNil)))) (tt := tYes) (wi1 := (iRng1 (tCons (tVar 0) tNil))) (g1 := (gName 5)) (tt1 := (tTest (tOp rNe (tVar 5) (tOp (rIxL K) (tOp (rIxL K) (tVar 1) (tVar 4)) (tVar 3))))) (te := (tTup (tCons (tVar 3) (tCons (tVar 4) (tCons (tVar 5) tNil))))) rfl scDeeds.nd (pi_list (pv 2))
            (blkOk_by (N := nDeeds) (sc := (defScope sDeeds)) (by decide +kernel)) (by decide) (fun _ _ _ _ _ => (pg_tup rfl (pgs_cons (pg_name (i := 3) scDeeds.nd rfl (Or.inl rfl)) (pgs_cons (pg_name (i := 4) scDeeds.nd rfl (Or.inl rfl)) pgs_nil)))) (fun _ _ _ _ _ => by exact pts_nil) (fun _ _ _ _ _ => by exact (pi_range1 (by rfl) T.range (pa_cons (pv 0) pa_nil))) (fun _ _ _ _ _ => (pg_name (i := 5) scDeeds.nd rfl (Or.inl rfl))) (fun _ _ _ _ _ => by exact (pts_one (pt_cmpR op_ne (pv 5) (pe_ix ix_list (pe_ix ix_list (pv 1) (pv 4) (fun _ _ => rfl)) (pv 3) (fun _ _ => rfl)) (nomark _))))
            (fun _ _ _ _ _ => by exact (pe_tup (pa_cons (pv 3) (pa_cons (pv 4) (pa_cons (pv 5) pa_nil)))))))))), ?_⟩
    obtain ⟨n, hn⟩ : ∃ n, kss.length = n := ⟨_, rfl⟩
    refine ⟨_, rfl, _, rfl, k, .ref c, tabP kss, rfl, k2, k9, t.dt, fine.comp m1 m40, fun H1 s1 => ?_⟩
    refine ⟨_, rfl, c, rs, kss, k, rfl, t.same s1, fine, by omega, fun m ps H2 s2 M _ => ?_⟩
    refine ⟨m, ps, kss, rfl, M, by omega, fun L ts H3 s3 nL R e => ?_⟩
    obtain ⟨al, hal⟩ : ∃ al, (cplTo kss.length kss.length).filter (fun c => alikeB kss c.1 c.2) = al := ⟨_, rfl⟩
    rw [hal] at e
    have s03 := s1.trans (s2.trans s3)
    have lts : ts.length = al.length := by rw [← e, List.length_map]
    have lal : al.length ≤ 1600 := by
      rw [← hal]
      refine Nat.le_trans (List.length_filter_le _ _) (Nat.le_trans (cpl_len _ _) ?_)
      exact Nat.mul_le_mul m40 m40
    have fl : ∀ l : List (Nat × Nat), (l.flatMap fun c => kindsOf kss c k.toNat).length ≤ l.length * 9 := fun l => by
      induction l with
      | nil => simp
      | cons a l ih =>
        rw [List.flatMap_cons, List.length_append, List.length_cons, Nat.succ_mul]
        have := kinds_len kss a k.toNat
        omega
    refine ⟨_, rfl, L, rfl, ⟨_, SqL.of R.top⟩, fun D hD => ?_⟩
    refine lc2_it (walk_list (K := K) (a := L) (xs := ts.map fun t => V.ref t.1)) (fun i H' => Same H3 H' ∧ ∃ us, Deeds H3 H' D us ∧ us.map (·.2) = ((al.take i).flatMap fun c => kindsOf kss c k.toNat))
      ⟨same_new hD, [], ⟨upd_same, by simp, by simp⟩, rfl⟩ (fun i H' _ z => SqL.of (z.1 _ _ R.top)) ?_ ?_
    · rintro i y H4 H5 hi ⟨s4, us, U, eu⟩ ⟨rfl, ey⟩
      rw [List.getElem?_map] at ey
      cases et : ts[i]? with
      | none =>
        rw [et] at ey
        cases ey
      | some v =>
        rw [et] at ey
        cases ey
        obtain ⟨ad, a, b⟩ := v
        have vm := List.mem_of_getElem? et
        have ea : al[i]? = some (a, b) := by
          rw [← e, List.getElem?_map, et]
          rfl
        have am : (a, b) ∈ (cplTo kss.length kss.length).filter (fun c => alikeB kss c.1 c.2) := by rw [hal]; exact List.mem_of_getElem? ea
        obtain ⟨w1, w2, w3⟩ := (cpl_mem _ _ a b).mp (List.mem_filter.mp am).1
        refine ⟨ad, _, rfl, SqT.of (s4 _ _ (R.row _ vm)), rfl, _, _, rfl, _, _, rfl, rfl, rfl, yes_of ?_⟩
        refine ⟨_, rfl, k, rfl, by omega, by omega, ?_⟩
        refine lc2_in (walk_nat (n := k.toNat)) (fun j H' => Same H3 H' ∧ ∃ us, Deeds H3 H' D us ∧ us.map (·.2) = ((al.take i).flatMap fun c => kindsOf kss c k.toNat) ++ kindsOf kss (a, b) j)
          ⟨s4, us, U, by rw [eu]; exact (List.append_nil _).symm⟩ (fun _ _ _ _ => trivial) ?_ ?_
        · rintro j y H6 H7 hj ⟨s6, us6, U6, e6⟩ ⟨rfl, rfl⟩
          have t6 := t.same (s03.trans s6)
          obtain ⟨rb, kb, g1, g2, g3⟩ := t6.entry fine w2 w3
          refine ⟨rfl, ?_⟩
          refine ⟨_, rfl, _, rfl, _, rfl, c, _, _, _, rfl, rfl, SqL.of t6.top, g1, _, rfl, rb, _, _, _, rfl, rfl, SqL.of g2, g3, rfl, _, rfl, ?_⟩
          have fd : decide (V.int ((j : Nat) : Int) = V.int (tieN kss b a)) = decide (((j : Nat) : Int) = tieN kss b a) := decide_eq_decide.mpr ⟨fun z => by injection z, fun z => by rw [z]⟩
          rw [fd]
          have km := kinds_more kss (a, b) j
          cases e0 : decide (((j : Nat) : Int) = tieN kss b a) with
          | true =>
            refine iteF ⟨s6, us6, U6, ?_⟩
            rw [km, e0]
            exact e6.trans (by simp)
          | false =>
            refine iteT ⟨_, rfl, _, rfl, _, rfl, (by show 3 ≤ sizeLine; decide), fun p hp => ?_⟩
            obtain ⟨H8, e8, s8, f8⟩ := gen H7 hp (.tup [.int (a : Nat), .int (b : Nat), .int (j : Nat)])
            rw [e8]
            clear e8
            have f8' : H8 p = some (.tup (deedV3 (a, b, ((j : Nat) : Int)))) := f8
            refine ⟨_, s8 _ _ U6.top, ?_, fun x o e' => ?_, us6 ++ [(p, (a, b, ((j : Nat) : Int)))], U6.push s8 hp (s6.free hp) f8', ?_⟩
            · have h1 := congrArg List.length e6
              rw [List.length_map, List.length_append] at h1
              have h2 := fl (al.take i)
              have h3 := kinds_len kss (a, b) j
              rw [List.length_take] at h2
              rw [List.length_map, sizeLine_eq]
              omega
            · rw [upd_ne (ne_of_none e' hD)]
              exact s8 _ _ (s6 _ _ e')
            · rw [List.map_append, e6, km, e0, List.append_assoc]
              rfl
        · rintro H6 ⟨s6, us6, U6, e6⟩
          refine ⟨s6, us6, U6, ?_⟩
          rw [e6, List.take_add_one, ea, List.flatMap_append]
          simp
    · rintro H4 ⟨s4, us, U, eu⟩
      rw [List.length_map, lts, List.take_length] at eu
      refine q D us H4 (s03.trans s4) (s03.free hD) (U.back s03) ?_
      rw [eu]
      unfold deedsL
      rw [hal]
abbrev sDone : Stmt := topS 40
abbrev nDone : List Str := ["kinds", "company", "deed", "behind", "many"]
theorem scDone : FnScope nDone ["kinds", "company", "deed"] (defScope sDone) := ⟨rfl, rfl, rfl, by decide +kernel, rfl, by decide +kernel, by decide +kernel⟩
theorem ok_done {f : Addr} {fd : FuncData} (F : Fun K "done" "done" sDone f fd) (T : Bi mg) (Ucheckcompany : Use P w K mg base "check_company" ["kinds", "company"] (spCheckC K) 5) (Ufollowed : Use P w K mg base "followed" ["kinds", "company", "road"] (spFollowed K) 6) : FnOk P w K mg base CX0 7 f fd ["kinds", "company", "deed"] (spDone K) := by
  refine F.ok scDone (fun vs H Q E h => ?_) (fun cdv A outer s H vs Q E hr h => ?_)
  · obtain ⟨k, c, x, d, rs, kss, rfl, _⟩ := h
    rfl
  · obtain ⟨k, c, x, d, rs, kss, rfl, k2, k9, t, fine, m1, m40, hd, hB, q⟩ := h
    refine ⟨_, (pss_cons (ps_expr (pe_use Ucheckcompany (hr.mono (by decide)) (by rfl) (pa_cons (pv 0) (pa_cons (pv 1) pa_nil))))
      (pss_cons (ps_asg (pe_use Ufollowed hr (by rfl) (pa_cons (pv 0) (pa_cons (pv 1) (pa_cons (pe_lst (pa_cons (pv 2) pa_nil)) pa_nil))))
          (pg_tup rfl (pgs_cons (pg_name (i := 3) scDone.nd rfl (Or.inl rfl)) (pgs_cons (pg_name (i := 4) scDone.nd rfl (Or.inl rfl)) pgs_nil))))
      (pss_cons (ps_if (pt_cmpR op_eq (pv 4) pe_int (nomark _))
        (pss_one ps_never) pss_nil)
      (pss_one (ps_ret (pv 3)))))), ?_⟩
    refine ⟨_, rfl, _, rfl, k, .ref c, tabP kss, rfl, k2, k9, t.dt, fine.comp m1 m40, fun H1 s1 => ?_⟩
    have fo : followK k kss [d] 0 = (doD kss d, 1) := by
      rw [follow_cons, hB, if_pos rfl]
      rfl
    refine ⟨_, rfl, _, rfl, _, rfl, one_le, fun l hl => ?_⟩
    obtain ⟨H2, e2, s2, f2⟩ := gen H1 hl (.lst [x])
    rw [e2]
    clear e2
    have s02 := s1.trans s2
    refine ⟨k, c, l, rs, kss, [x], [d], rfl, t.same s02, fine, m40, f2, .cons (hd.same s02) .nil, (by show 1 ≤ 100000; decide), fun T p ps H3 s3 hT u np pn nr => ?_⟩
    rw [fo] at hT u
    refine ⟨T, _, rfl, SqT.of hT, rfl, _, _, rfl, _, _, rfl, rfl, ?_⟩
    refine ⟨_, rfl, rfl, _, rfl, iteF ⟨_, rfl, ?_⟩⟩
    exact q p ps H3 (s02.trans s3) u (s02.free np) pn fun r hr' => s02.free (nr r hr')
abbrev sLedP : Stmt := topS 41
abbrev nLedP : List Str := ["kinds", "company", "road", "behind", "many"]
theorem scLedP : FnScope nLedP ["kinds", "company", "road"] (defScope sLedP) := ⟨rfl, rfl, rfl, by decide +kernel, rfl, by decide +kernel, by decide +kernel⟩
theorem ok_ledP {f : Addr} {fd : FuncData} (F : Fun K "led" "led" sLedP f fd) (T : Bi mg) (Ucheckcompany : Use P w K mg base "check_company" ["kinds", "company"] (spCheckC K) 5) (Ufollowed : Use P w K mg base "followed" ["kinds", "company", "road"] (spFollowed K) 6) : FnOk P w K mg base CX0 7 f fd ["kinds", "company", "road"] (spLedP K) := by
  refine F.ok scLedP (fun vs H Q E h => ?_) (fun cdv A outer s H vs Q E hr h => ?_)
  · obtain ⟨k, c, r, rs, kss, xs, ds, rfl, _⟩ := h
    rfl
  · obtain ⟨k, c, r, rs, kss, xs, ds, rfl, k2, k9, t, fine, m1, m40, hr0, hd, big, ok, q⟩ := h
    refine ⟨_, (pss_cons (ps_expr (pe_use Ucheckcompany (hr.mono (by decide)) (by rfl) (pa_cons (pv 0) (pa_cons (pv 1) pa_nil))))
      (pss_cons (ps_if (pt_not (pt_val (pe_callB call_isi (by rfl) T.isinstance (by decide +kernel) (pa_cons (pv 2) (pa_cons (pe_bltn (v := .ty "list") (by rfl) T.list (by decide +kernel) rfl) pa_nil)))))
        (pss_one ps_never) pss_nil)
      (pss_cons (ps_asg (pe_use Ufollowed hr (by rfl) (pa_cons (pv 0) (pa_cons (pv 1) (pa_cons (pv 2) pa_nil))))
          (pg_tup rfl (pgs_cons (pg_name (i := 3) scLedP.nd rfl (Or.inl rfl)) (pgs_cons (pg_name (i := 4) scLedP.nd rfl (Or.inl rfl)) pgs_nil))))
      (pss_cons (ps_if (pt_cmpR op_lt (pv 4) (pe_callB call_len_seq (by rfl) T.len PySem.boot_len (pa_cons (pv 2) pa_nil)) (nomark _))
        (pss_one ps_never) pss_nil)
      (pss_one (ps_ret (pv 3))))))), ?_⟩
    refine ⟨_, rfl, _, rfl, k, .ref c, tabP kss, rfl, k2, k9, t.dt, fine.comp m1 m40, fun H1 s1 => ?_⟩
    have h1 := s1 _ _ hr0
    refine ⟨_, rfl, _, _, _, _, _, rfl, .ty "list", (Dt.lst (K := K) h1 (Dts.same s1 ds _ hd)).ty, kit_list (.list ds), _, rfl, iteF ?_⟩
    refine ⟨_, rfl, _, rfl, _, rfl, k, c, r, rs, kss, xs, ds, rfl, t.same s1, fine, m40, h1, Dts.same s1 ds _ hd, big, fun T p ps H3 s3 hT u np pn nr => ?_⟩
    refine ⟨T, _, rfl, SqT.of hT, rfl, _, _, rfl, _, _, rfl, rfl, ?_⟩
    rw [ok]
    refine ⟨_, rfl, _, rfl, r, xs, rfl, .inl (SqL.of (s3 _ _ h1)), _, _, rfl, rfl, _, rfl, ?_⟩
    rw [hd.length]
    refine ite2 (fun z => absurd (of_decide_eq_true z) (by omega)) (fun _ => ⟨_, rfl, ?_⟩)
    exact q p ps H3 (s1.trans s3) u (s1.free np) pn fun r hr' => s1.free (nr r hr')
abbrev sIsRoad : Stmt := topS 42
abbrev nIsRoad : List Str := ["kinds", "company", "value"]
theorem scIsRoad : FnScope nIsRoad ["kinds", "company", "value"] (defScope sIsRoad) := ⟨rfl, rfl, rfl, by decide +kernel, rfl, by decide +kernel, by decide +kernel⟩
theorem ok_isRoad {f : Addr} {fd : FuncData} (F : Fun K "is_road" "is_road" sIsRoad f fd) (T : Bi mg) (Ucheckcompany : Use P w K mg base "check_company" ["kinds", "company"] (spCheckC K) 5) (Ufollowed : Use P w K mg base "followed" ["kinds", "company", "road"] (spFollowed K) 6) : FnOk P w K mg base CX0 7 f fd ["kinds", "company", "value"] (spIsRoad K) := by
  refine F.ok scIsRoad (fun vs H Q E h => ?_) (fun cdv A outer s H vs Q E hr h => ?_)
  · obtain ⟨k, c, x, d, rs, kss, rfl, _⟩ := h
    rfl
  · obtain ⟨k, c, x, d, rs, kss, rfl, k2, k9, t, fine, m1, m40, hd, big, q⟩ := h
    refine ⟨_, (pss_cons (ps_expr (pe_use Ucheckcompany (hr.mono (by decide)) (by rfl) (pa_cons (pv 0) (pa_cons (pv 1) pa_nil))))
      (pss_one (ps_ret (pe_and (pe_callB call_isi (by rfl) T.isinstance (by decide +kernel) (pa_cons (pv 2) (pa_cons (pe_bltn (v := .ty "list") (by rfl) T.list (by decide +kernel) rfl) pa_nil))) (pe_one (pe_cmpR op_eq (pe_ix ix_tup (pe_use Ufollowed hr (by rfl) (pa_cons (pv 0) (pa_cons (pv 1) (pa_cons (pv 2) pa_nil)))) pe_int (fun _ _ => rfl)) (pe_callB call_len_seq (by rfl) T.len PySem.boot_len (pa_cons (pv 2) pa_nil)) (nomark _))))))), ?_⟩
    refine ⟨_, rfl, _, rfl, k, .ref c, tabP kss, rfl, k2, k9, t.dt, fine.comp m1 m40, fun H1 s1 => ?_⟩
    have hd1 := hd.same s1
    refine ⟨_, rfl, _, _, _, _, _, rfl, .ty "list", hd1.ty, kit_list d, _, rfl, ?_⟩
    by_cases e : ∃ ds, d = .list ds
    · obtain ⟨ds, rfl⟩ := e
      cases hd1 with
      | lst hl hx =>
        rename_i l xs
        refine iteT ⟨_, rfl, _, rfl, _, rfl, k, c, l, rs, kss, xs, ds, rfl, t.same s1, fine, m40, hl, hx, by rw [hx.length]; exact big ds rfl, fun T p ps H3 s3 hT u np pn nr => ?_⟩
        refine ⟨T, _, _, _, rfl, rfl, SqT.of hT, at_of (j := 1) rfl rfl, _, rfl, l, xs, rfl, .inl (SqL.of (s3 _ _ hl)), rfl, ?_⟩
        have := q H3 (s1.trans s3)
        have ez : decide (V.int (((followK k kss ds 0).2 : Nat) : Int) = V.int ((xs.length : Nat) : Int)) = roadD k kss (.list ds) := by
          show _ = decide ((followK k kss ds 0).2 = ds.length)
          rw [hx.length]
          exact decide_eq_decide.mpr ⟨fun z => by injection z with z; omega, fun z => by rw [z]⟩
        rw [ez]
        exact this
    · have z : isList d = false ∧ roadD k kss d = false := by
        cases d with
        | list ds => exact (e ⟨ds, rfl⟩).elim
        | _ => exact ⟨rfl, rfl⟩
      rw [z.1]
      refine iteF ?_
      have := q H1 s1
      rw [z.2] at this
      exact this
end
end K03

namespace K03
open PySem PySem.Spec PyProof.Rows
open L2
open GL
section
variable {P : Program} {w : World} {K : PySem.W.Frag} {mg : Str → Option Value} {base : Heap}
abbrev sCouples : Stmt := topS 52
abbrev nCouples : List Str := ["_law_many", "_law_found", "_law_one", "_law_other"]
theorem scCouples : FnScope nCouples ["_law_many"] (defScope sCouples) := ⟨rfl, rfl, rfl, by decide +kernel, rfl, by decide +kernel, by decide +kernel⟩
theorem ok_couples {f : Addr} {fd : FuncData} (F : Fun K "_law_couples" "_law_couples" sCouples f fd) (T : Bi mg) : FnOk P w K mg base CX0 1 f fd ["_law_many"] spCouples := by
  refine F.ok scCouples (fun vs H Q E h => ?_) (fun cdv A outer s H vs Q E hr h => ?_)
  · obtain ⟨n, rfl, _⟩ := h
    rfl
  · obtain ⟨n, rfl, n100, q⟩ := h
    refine ⟨_, pss_cons (ps_set (i := 1) scCouples.nd rfl (Or.inl rfl) (pe_lst pa_nil))
      (pss_cons (ps_for PassesOwn.never rfl (pi_range1 (by rfl) T.range (pa_cons (pv 0) pa_nil)) (pg_name (i := 2) scCouples.nd rfl (Or.inr rfl))
        (pss_one (ps_set (i := 1) scCouples.nd rfl (Or.inl rfl) (pe_op op_cat (pv 1) (pe_lc (own := [("_law_other", 3)]) (g := gName 3) (tt := tYes) rfl scCouples.nd (pi_range2 (by rfl) T.range (pa_cons (pe_op op_add (pv 2) pe_int) (pa_cons (pv 0) pa_nil))) (blkOk_by (N := nCouples) (sc := defScope sCouples) (by decide +kernel))
          (fun _ _ _ _ _ => pg_name (i := 3) scCouples.nd rfl (Or.inl rfl)) (fun _ _ _ _ _ => pts_nil) (fun _ _ _ _ _ => by exact (pe_tup (pa_cons (pv 2) (pa_cons (pv 3) pa_nil)))))))))
      (pss_one (ps_ret (pv 1)))), ?_⟩
    refine ⟨Nat.zero_le _, fun f0 hf0 => ?_⟩
    have big : ∀ m, m ≤ 100 → m * n ≤ 10000 := fun m hm => Nat.mul_le_mul hm n100
    have szl : ∀ x, x ≤ 10200 → x < sizeLine := fun x hx => by rw [sizeLine_eq]; omega
    refine ⟨_, rfl, _, rfl, by omega, by omega, ?_⟩
    refine for_range (lo := 0) (n := (n : Int).toNat) (fun i σ H' => ∃ (a : Addr) (ts : List (Addr × Nat × Nat)) (pv : Option V), σ = [some (.int n), some (.ref a), pv, none] ∧ Same H H' ∧ H a = none ∧ Cpls H H' a ts ∧ ts.map (·.2) = cplTo n i)
      ⟨f0, [], none, rfl, same_new hf0, hf0, ⟨upd_same, by simp, by simp⟩, rfl⟩ ?_ ?_
    · rintro i σ H' hi ⟨a, ts, pv0, rfl, s1, ha, R, e1⟩
      have lts : ts.length ≤ i * n := by
        have := congrArg List.length e1
        rw [List.length_map] at this
        rw [this]
        exact cpl_len n i
      have b1 := big i (by omega)
      refine ⟨_, rfl, _, rfl, _, _, rfl, rfl, _, rfl, _, _, rfl, ⟨by omega, by omega, by omega, by omega⟩, fun D hD => ?_⟩
      have kn : ((n : Int) - (0 + (i : Int) + 1)).toNat = n - (i + 1) := by omega
      refine lc_it (walk_range (lo := 0 + (i : Int) + 1) (n := ((n : Int) - (0 + (i : Int) + 1)).toNat)) (fun j H5 => Same H' H5 ∧ ∃ us, Cpls H' H5 D us ∧ us.map (·.2) = (List.range j).map fun j => (i, i + 1 + j))
        ⟨same_new hD, [], ⟨upd_same, by simp, by simp⟩, rfl⟩ (fun _ _ _ _ => trivial) ?_ ?_
      · rintro j y H5 H6 hj ⟨s5, us, R5, e5⟩ ⟨rfl, rfl⟩
        refine ⟨rfl, yes_of ?_⟩
        refine ⟨_, rfl, _, rfl, (by show 2 ≤ sizeLine; decide), fun p hp => ?_⟩
        have ev : ([V.int (0 + (i : Int)), V.int (0 + (i : Int) + 1 + (j : Int))] : List V) = [V.int (i : Nat), V.int ((i + 1 + j : Nat) : Int)] := by
          rw [show (0 + (i : Int)) = (i : Int) by omega, show ((i : Int) + 1 + (j : Int)) = ((i + 1 + j : Nat) : Int) by omega]
        rw [ev]
        obtain ⟨H7, e7, s7, f7⟩ := gen H6 hp (.tup [V.int (i : Nat), V.int ((i + 1 + j : Nat) : Int)])
        rw [e7]
        clear e7
        have Dp : D ≠ p := ne_of_none R5.top hp
        refine ⟨_, s7 _ _ R5.top, ?_, fun b o e' => ?_, us ++ [(p, i, i + 1 + j)], ⟨?_, ?_, ?_⟩, ?_⟩
        · have lu : us.length = j := by
            have := congrArg List.length e5
            rw [List.length_map, List.length_map, List.length_range] at this
            exact this
          rw [List.length_map]
          exact small1000 (by omega)
        · rw [upd_ne (ne_of_none e' hD)]
          exact s7 b o (s5 b o e')
        · rw [upd_same, List.map_append]
          rfl
        · intro u hu
          rcases List.mem_append.mp hu with hu | hu
          · have h0 := R5.row u hu
            have uD : u.1 ≠ D := ne_of h0 R5.top (by intro z; cases z)
            rw [upd_ne uD]
            exact s7 _ _ h0
          · rw [List.mem_singleton] at hu
            subst hu
            show upd H7 D _ p = _
            rw [upd_ne Dp.symm]
            exact f7
        · intro u hu
          rcases List.mem_append.mp hu with hu | hu
          · exact R5.new u hu
          · rw [List.mem_singleton] at hu
            subst hu
            exact s5.free hp
        · rw [List.map_append, e5, List.range_succ, List.map_append]
          rfl
      · rintro H5 ⟨s5, us, R5, e5⟩
        rw [kn] at e5
        have lus : us.length ≤ n := by
          have := congrArg List.length e5
          rw [List.length_map, List.length_map, List.length_range] at this
          omega
        refine ⟨a, D, _, _, rfl, rfl, s5 _ _ R.top, R5.top, ?_, fun p hp => ?_⟩
        · rw [List.length_map, List.length_map]
          exact Nat.le_of_lt (szl _ (by omega))
        · obtain ⟨H6, e6, s6, f6⟩ := gen H5 hp (.lst ((ts.map fun t => V.ref t.1) ++ (us.map fun t => V.ref t.1)))
          rw [e6]
          clear e6
          refine ⟨p, ts ++ us, _, rfl, s1.trans (s5.trans s6), s1.free (s5.free hp), ⟨?_, ?_, ?_⟩, ?_⟩
          · rw [f6, List.map_append]
          · intro t ht
            rcases List.mem_append.mp ht with ht | ht
            · exact s6 _ _ (s5 _ _ (R.row t ht))
            · exact s6 _ _ (R5.row t ht)
          · intro t ht
            rcases List.mem_append.mp ht with ht | ht
            · exact R.new t ht
            · exact s1.free (R5.new t ht)
          · rw [List.map_append, e1, e5]
            rfl
    · rintro σ H' ⟨a, ts, pv0, rfl, s1, ha, R, e1⟩
      have nn : (n : Int).toNat = n := Int.toNat_natCast n
      rw [nn] at e1
      exact ⟨_, rfl, q a ts H' s1 ha R e1⟩

abbrev sNamed : Stmt := topS 53
abbrev nNamed : List Str := ["_law_company_here", "_law_order_here", "_law_place", "_law_person", "_law_mate"]
theorem scNamed : FnScope nNamed ["_law_company_here", "_law_order_here"] (defScope sNamed) := ⟨rfl, rfl, rfl, by decide +kernel, rfl, by decide +kernel, by decide +kernel⟩
theorem ok_named {f : Addr} {fd : FuncData} (F : Fun K "_law_named" "_law_named" sNamed f fd) (T : Bi mg) (U : Use P w K mg base "_law_tie" ["_law_company_here", "_law_one", "_law_other"] spTie 1) : FnOk P w K mg base CX0 2 f fd ["_law_company_here", "_law_order_here"] spNamed := by
  refine F.ok scNamed (fun vs H Q E h => ?_) (fun cdv A outer s H vs Q E hr h => ?_)
  · obtain ⟨c, o, rs, kss, k, os, rfl, _⟩ := h
    rfl
  · obtain ⟨c, o, rs, kss, k, os, rfl, t, fine, ho, nd, bd, len, q⟩ := h
    refine ⟨_, pss_one (ps_ret (pe_lc (own := [("_law_place", 2), ("_law_person", 3)]) (g := gTup K 2 (gCons (gName 2) (gCons (gName 3) gNil))) (tt := tYes) (te := tLc (iList K (tSl (rSlL K) (tVar 1) tNoPart (tPart (tVar 2)))) (gName 4) tYes (tCall spTie [] E0 (tCons (tVar 0) (tCons (tVar 3) (tCons (tVar 4) tNil)))) [4]) rfl scNamed.nd (pi_enum (by rfl) T.enumerate (pa_cons (pv 1) pa_nil))
        (blkOk_by (N := nNamed) (sc := defScope sNamed) (by decide +kernel)) (fun _ _ _ _ _ => pg_tup rfl (pgs_cons (pg_name (i := 2) scNamed.nd rfl (Or.inl rfl)) (pgs_cons (pg_name (i := 3) scNamed.nd rfl (Or.inr rfl)) pgs_nil)))
        (fun _ _ _ _ _ => pts_nil)
        (fun _ _ _ _ _ => by exact (pe_lc (own := [("_law_mate", 4)]) (g := gName 4) (tt := tYes) rfl scNamed.nd (pi_list (pe_slice sl_list (pv 1) po_none (po_some (pv 2))))
          (blkOk_by (N := nNamed) (sc := relS (compScope (exprOf (stmtIn (defBody sNamed) 0))) (defScope sNamed)) (by decide +kernel)) (fun _ _ _ _ _ => pg_name (i := 4) scNamed.nd rfl (Or.inl rfl))
          (fun _ _ _ _ _ => pts_nil) (fun _ _ _ _ _ => pe_use U hr (by rfl) (pa_cons (pv 0) (pa_cons (pv 3) (pa_cons (pv 4) pa_nil)))))))), ?_⟩
    refine ⟨_, rfl, o, natV os, rfl, SqL.of ho, fun D hD => ?_⟩
    have lo : (natV os).length = os.length := List.length_map _
    refine lc_it (walk_enum (K := K) (a := o) (xs := natV os)) (fun i H5 => Same H H5 ∧ ∃ rs, Tab H5 D rs ((List.range i).map (rowN kss os)) ∧ D ∉ rs ∧ ∀ r ∈ rs, H r = none) ⟨same_new hD, [], ⟨upd_same, rfl, fun i r ks h => by simp at h, List.nodup_nil⟩, by simp, by simp⟩ (fun i H5 _ z => (z.1).seq (SqL.of ho)) ?_ ?_
    · rintro i y H5 H6 hi ⟨s1, rs', u, nD, nR⟩ ⟨A2, x1, x2, rfl, nA, rfl, e1, e2⟩
      have e1' : x1 = .int (i : Nat) := (Option.some.inj e1).symm
      subst e1'
      rw [lo] at hi
      have e2' : x2 = .int (os[i] : Nat) := by
        have e3 : (natV os)[i]? = some x2 := e2
        unfold natV at e3
        rw [List.getElem?_map, List.getElem?_eq_getElem hi] at e3
        exact (Option.some.inj e3).symm
      subst e2'
      have s2 := s1.trans (same_new (o := .tup [.int (i : Nat), .int (os[i] : Nat)]) nA)
      refine ⟨A2, [.int (i : Nat), .int (os[i] : Nat)], rfl, SqT.of upd_same, rfl, _, _, rfl, _, _, rfl, rfl, rfl, yes_of ?_⟩
      refine ⟨_, rfl, _, rfl, _, rfl, o, _, rfl, SqL.of (s2 _ _ ho), fun C hC => ?_⟩
      rw [cut_to (by rw [lo]; omega)]
      have s3 := s2.trans (same_new (o := .lst ((natV os).take i)) hC)
      refine ⟨_, rfl, ⟨_, SqL.of upd_same⟩, fun D2 hD2 => ?_⟩
      refine lc_list (K := K) (a := C) (xs := (natV os).take i) (fun j H7 => Same (upd (upd H5 A2 (.tup [.int (i : Nat), .int (os[i] : Nat)])) C (.lst ((natV os).take i))) H7 ∧ H7 D2 = some (.lst (((List.range j).map fun j => tieN kss (os.getD i 0) (os.getD j 0)).map V.int)))
        ⟨same_new hD2, upd_same⟩ (fun j H7 _ z => (z.1).seq (SqL.of upd_same)) ?_ ?_
      · rintro j y H7 hj ⟨s5, h5⟩
        have hji : j < i := by
          have := (List.getElem?_eq_some_iff.mp hj).1
          rw [List.length_take] at this
          omega
        have hjl : j < os.length := by omega
        have ey : y = .int (os[j] : Nat) := by
          rw [List.getElem?_take_of_lt hji] at hj
          unfold natV at hj
          rw [List.getElem?_map, List.getElem?_eq_getElem hjl] at hj
          exact (Option.some.inj hj).symm
        subst ey
        have b1 : os[i] < kss.length := bd _ (List.getElem_mem _)
        have b2 : os[j] < kss.length := bd _ (List.getElem_mem _)
        have ne : os[i] ≠ os[j] := fun z => by
          have := (List.getElem_inj nd).mp z
          omega
        have s35 := s3.trans s5
        have gi : os.getD i 0 = os[i] := by rw [List.getD_eq_getElem?_getD, List.getElem?_eq_getElem hi]; rfl
        have gj : os.getD j 0 = os[j] := by rw [List.getD_eq_getElem?_getD, List.getElem?_eq_getElem hjl]; rfl
        have last : ∃ acc, H7 D2 = some (.lst acc) ∧ acc.length < sizeLine ∧ Same (upd (upd H5 A2 (.tup [.int (i : Nat), .int (os[i] : Nat)])) C (.lst ((natV os).take i))) (upd H7 D2 (.lst (acc ++ [V.int (tieN kss os[i] os[j])]))) ∧
            (upd H7 D2 (.lst (acc ++ [V.int (tieN kss os[i] os[j])]))) D2 = some (.lst (((List.range (j + 1)).map fun j => tieN kss (os.getD i 0) (os.getD j 0)).map V.int)) := by
          refine ⟨_, h5, ?_, fun b o' zz => ?_, ?_⟩
          · rw [List.length_map, List.length_map, List.length_range]
            exact small1000 (by omega)
          · have nb : b ≠ D2 := ne_of_none zz hD2
            rw [upd_ne nb]
            exact s5 b o' zz
          · rw [upd_same, List.range_succ, List.map_append, List.map_append]
            show _ = some (HO.lst (_ ++ [V.int (tieN kss (os.getD i 0) (os.getD j 0))]))
            rw [gi, gj]
        refine ⟨rfl, yes_of ?_⟩
        exact ⟨_, rfl, _, rfl, _, rfl, c, rs, kss, k, os[i], os[j], rfl, t.same s35, fine, b1, b2, ne, last⟩
      · rintro H7 ⟨s5, h5⟩
        have l6 : ((natV os).take i).length = i := by
          rw [List.length_take, lo]
          omega
        rw [l6] at h5
        have nA' : ∀ b o', H5 b = some o' → H7 b = some o' := fun b o' e => s5 b o' ((same_new hC) b o' ((same_new nA) b o' e))
        have hp : H5 D2 = none := (same_new nA).free ((same_new hC).free hD2)
        refine ⟨rs'.map V.ref, nA' _ _ u.top, ?_, fun b o' e => ?_, ?_⟩
        · rw [List.length_map, u.len, List.length_map, List.length_range]
          exact small1000 (by omega)
        · rw [upd_ne (ne_of_none e hD)]
          exact nA' b o' (s1 b o' e)
        · obtain ⟨t2, n2⟩ := u.push nD (fun r _ o' e => nA' r o' e) (ks := rowN kss os i) hp h5
          refine ⟨_, ?_, n2, fun r hr => ?_⟩
          · rw [List.range_succ, List.map_append]
            exact t2
          · rcases List.mem_append.mp hr with hr | hr
            · exact nR r hr
            · rw [List.mem_singleton] at hr
              subst hr
              exact s1.free hp
    · rintro H5 ⟨s1, rs', u, nD, nR⟩
      rw [lo] at u
      exact q D rs' H5 s1 u nD hD nR

abbrev sOrder : Stmt := topS 55
theorem scOrder : FnScope ["_law_generator_here", "_law_many", "_law_left", "_law_found", "_law_turn"] ["_law_generator_here", "_law_many"] (defScope sOrder) := ⟨rfl, rfl, rfl, by decide +kernel, rfl, by decide +kernel, by decide +kernel⟩
theorem ok_order {f : Addr} {fd : FuncData} (F : Fun K "_law_order" "_law_order" sOrder f fd) (T : Bi mg) (U : Use P w K mg base "_law_random" ["_law_generator_here", "_law_bound"] spRandom 2) : FnOk P w K mg base CX0 3 f fd ["_law_generator_here", "_law_many"] spOrder := by
  refine F.ok scOrder (fun vs H Q E h => ?_) (fun cdv A outer s H vs Q E hr h => ?_)
  · obtain ⟨g, m, n, rfl, _⟩ := h
    rfl
  · obtain ⟨g, m, n, rfl, hm, G, q⟩ := h
    refine ⟨_, pss_cons (ps_par (i := 2) (j := 3) rfl scOrder.nd rfl rfl (by decide) rfl rfl (pa_cons (pe_listRg rfl (by rfl) T.list (prg_1 (by rfl) T.range (pv 1))) (pa_cons (pe_lst pa_nil) pa_nil)) (by rfl))
      (pss_cons (ps_for PassesOwn.never rfl (pi_range1 (by rfl) T.range (pa_cons (pv 1) pa_nil)) (pg_name (i := 4) scOrder.nd rfl (Or.inl rfl))
        (pss_one (ps_expr (pe_bm PySem.F.plainAttrs_list PySem.F.slot_list_append PySem.F.type_list_append mt_append (pv 3) (pa_cons (pe_bm PySem.F.plainAttrs_list PySem.F.slot_list_pop PySem.F.type_list_pop mt_popAt (pv 2)
          (pa_cons (pe_use U hr (by rfl) (pa_cons (pv 0) (pa_cons (pe_callB call_len_seq (by rfl) T.len PySem.boot_len (pa_cons (pv 2) pa_nil)) pa_nil))) pa_nil)) pa_nil)))))
      (pss_one (ps_ret (pv 3)))), ?_⟩
    refine ⟨_, rfl, _, rfl, RgOk.of_le (by omega) (by omega) (by omega) (by omega), fun l hl => ⟨Nat.zero_le _, fun d hd => ⟨_, _, rfl, ?_⟩⟩⟩
    have ld : l ≠ d := fun z => by
      rw [← z, upd_same] at hd
      cases hd
    have hd0 : H d = none := (same_new hl).free hd
    have gl : g ≠ l := G.ne hl
    have gd : g ≠ d := G.ne hd0
    refine ⟨_, rfl, m, rfl, by omega, by omega, ?_⟩
    refine for_range (lo := 0) (n := (m : Int).toNat) (fun i σ H' => ∃ (L Fd : List Nat) (t : Option V), σ = [some (.ref g), some (.int m), some (.ref l), some (.ref d), t] ∧ But g H H' ∧ H' l = some (.lst (natV L)) ∧ H' d = some (.lst (natV Fd)) ∧
        (Fd ++ L).Perm (List.range m) ∧ Fd.length = i ∧ Gen H' g (n + 5 * (m - i)))
      ⟨List.range m, [], none, rfl, (But.new hl).trans (But.new hd), by rw [upd_ne ld, upd_same, rg_nat], upd_same, .refl _, rfl, (G.new hl).new hd⟩ ?_ ?_
    · rintro i σ H' hi ⟨L, Fd, t, rfl, bt, h1, h2, pm, lf, G'⟩
      have cnt : (Fd ++ L).length = m := by rw [pm.length_eq, List.length_range]
      rw [List.length_append] at cnt
      have him : i < m := by omega
      have lL : (natV L).length = L.length := List.length_map _
      have G2 : Gen H' g (n + 5 * (m - (i + 1)) + 5) := by
        rw [show n + 5 * (m - (i + 1)) + 5 = n + 5 * (m - i) by omega]
        exact G'
      refine ⟨_, rfl, .inl ⟨rfl, _, SqL.of h2⟩, _, rfl, .inl ⟨rfl, _, SqL.of h1⟩, _, rfl, _, rfl, l, natV L, rfl, .inl (SqL.of h1), g, (natV L).length, n + 5 * (m - (i + 1)), rfl, by omega, by omega, G2, ?_⟩
      intro r H2 r0 r1 G3 bt2
      have h1' := bt2 l _ h1 gl.symm
      have h2' := bt2 d _ h2 gd.symm
      have rk : r.toNat < L.length := by omega
      refine ⟨l, natV L, r, r.toNat, V.int (L[r.toNat] : Nat), rfl, rfl, h1', by omega, by omega, seq_in r0 r1, ?_, ?_⟩
      · unfold natV
        rw [List.getElem?_map, List.getElem?_eq_getElem rk]
        rfl
      · refine ⟨d, natV Fd, _, rfl, rfl, by rw [upd_ne ld.symm]; exact h2', ?_, ?_⟩
        · unfold natV
          rw [List.length_map]
          exact small1000 (by omega)
        · refine ⟨L.eraseIdx r.toNat, Fd ++ [L[r.toNat]], _, rfl, ?_, ?_, ?_, ?_, ?_, ?_⟩
          · intro b o e nb
            have e' := bt2 b o (bt b o e nb) nb
            rw [upd_ne (ne_of_none e hd0), upd_ne (ne_of_none e hl)]
            exact e'
          · rw [upd_ne ld, upd_same, erase_map]
          · rw [upd_same]
            unfold natV
            rw [List.map_append]
            rfl
          · refine List.Perm.trans ?_ pm
            rw [List.append_assoc]
            exact List.Perm.append_left _ (perm_erase (List.getElem?_eq_getElem rk))
          · rw [List.length_append, lf]
            rfl
          · exact (G3.other gl.symm).other gd.symm
    · rintro σ H' ⟨L, Fd, t, rfl, bt, h1, h2, pm, lf, G'⟩
      have cnt : (Fd ++ L).length = m := by rw [pm.length_eq, List.length_range]
      rw [List.length_append] at cnt
      have lf' : Fd.length = m := by omega
      have L0 : L = [] := List.length_eq_zero_iff.mp (by omega)
      subst L0
      rw [List.append_nil] at pm
      refine ⟨_, rfl, q d H' Fd bt hd0 (G'.less (by omega)) h2 pm⟩

abbrev sCompany : Stmt := topS 56
abbrev nCompany : List Str := ["_law_generator_here", "_law_kinds", "_law_many", "_law_person", "_law_found", "_law_way", "_law_one", "_law_kind", "_law_row", "_law_mate"]
theorem scCompany : FnScope nCompany ["_law_generator_here", "_law_kinds", "_law_many"] (defScope sCompany) := ⟨rfl, rfl, rfl, by decide +kernel, rfl, by decide +kernel, by decide +kernel⟩
theorem ok_company {f : Addr} {fd : FuncData} (F : Fun K "_law_company" "_law_company" sCompany f fd) (T : Bi mg) (U : Use P w K mg base "_law_random" ["_law_generator_here", "_law_bound"] spRandom 2)
    (UT : Use P w K mg base "_law_tie" ["_law_company_here", "_law_one", "_law_other"] spTie 1) (UN : Use P w K mg base "_law_named" ["_law_company_here", "_law_order_here"] spNamed 2) (UO : Use P w K mg base "_law_order" ["_law_generator_here", "_law_many"] spOrder 3) :
    FnOk P w K mg base CX0 4 f fd ["_law_generator_here", "_law_kinds", "_law_many"] spCompany := by
  refine F.ok scCompany (fun vs H Q E h => ?_) (fun cdv A outer s H vs Q E hr h => ?_)
  · obtain ⟨g, k, m, n, rfl, _⟩ := h
    rfl
  · obtain ⟨g, k, m, n, rfl, k2, k9, m1, m50, G, q⟩ := h
    have hr2 : Room 2 (A.deeper (envOfC "_law_company" (defScope sCompany) s.heap.objs.size f cdv)) := hr.mono (by decide)
    have hr1 : Room 1 (A.deeper (envOfC "_law_company" (defScope sCompany) s.heap.objs.size f cdv)) := hr.mono (by decide)
    refine ⟨_, pss_cons (ps_if (pt_cmpR op_eq (pe_use U hr2 (by rfl) (pa_cons (pv 0) (pa_cons pe_int pa_nil))) pe_int (nomark _))
        (pss_one (ps_ret (pe_lc (own := [("_law_person", 3)]) (g := gName 3) (tt := tYes) (te := tLc (iRng1 (tCons (tVar 3) tNil)) (gName 9) tYes (tCall spRandom [] E0 (tCons (tVar 0) (tCons (tVar 1) tNil))) [9]) rfl scCompany.nd (pi_range1 (by rfl) T.range (pa_cons (pv 2) pa_nil))
          (blkOk_by (N := nCompany) (sc := defScope sCompany) (by decide +kernel)) (fun _ _ _ _ _ => pg_name (i := 3) scCompany.nd rfl (Or.inl rfl)) (fun _ _ _ _ _ => pts_nil)
          (fun _ _ _ _ _ => by exact (pe_lc (own := [("_law_mate", 9)]) (g := gName 9) (tt := tYes) rfl scCompany.nd (pi_range1 (by rfl) T.range (pa_cons (pv 3) pa_nil))
            (blkOk_by (N := nCompany) (sc := relS (compScope (exprOf (stmtIn (ifBody (stmtIn (defBody sCompany) 0)) 0))) (defScope sCompany)) (by decide +kernel)) (fun _ _ _ _ _ => pg_name (i := 9) scCompany.nd rfl (Or.inl rfl))
            (fun _ _ _ _ _ => pts_nil) (fun _ _ _ _ _ => pe_use U hr2 (by rfl) (pa_cons (pv 0) (pa_cons (pv 1) pa_nil))))))) ) pss_nil)
      (pss_cons (ps_set (i := 4) scCompany.nd rfl (Or.inr rfl) (pe_lst (pa_cons (pe_lst pa_nil) pa_nil)))
      (pss_cons (ps_for PassesOwn.never rfl (pi_range2 (by rfl) T.range (pa_cons pe_int (pa_cons (pv 2) pa_nil))) (pg_name (i := 3) scCompany.nd rfl (Or.inl rfl))
        (pss_cons (ps_asg (pe_tup (pa_cons (pe_use U hr2 (by rfl) (pa_cons (pv 0) (pa_cons pe_int pa_nil))) (pa_cons (pe_use U hr2 (by rfl) (pa_cons (pv 0) (pa_cons (pv 3) pa_nil))) (pa_cons (pe_use U hr2 (by rfl) (pa_cons (pv 0) (pa_cons (pv 1) pa_nil))) pa_nil))))
            (pg_tup rfl (pgs_cons (pg_name (i := 5) scCompany.nd rfl (Or.inl rfl)) (pgs_cons (pg_name (i := 6) scCompany.nd rfl (Or.inr rfl)) (pgs_cons (pg_name (i := 7) scCompany.nd rfl (Or.inr rfl)) pgs_nil)))))
        (pss_cons (ps_set (i := 8) scCompany.nd rfl (Or.inl rfl) (pe_op op_rep (pe_lst (pa_cons (pv 7) pa_nil)) (pv 3)))
        (pss_cons (ps_if (pt_cmpR op_gt (pv 5) pe_int (nomark _))
            (pss_one (ps_setLc (i := 8) (own := [("_law_mate", 9)]) (g := gName 9) (tt := tYes) rfl scCompany.nd rfl rfl (sw_true rfl rfl rfl (by decide +kernel)) (pi_range1 (by rfl) T.range (pa_cons (pv 3) pa_nil))
              (blkOk_by (N := nCompany) (sc := defScope sCompany) (by decide +kernel)) (fun _ _ _ _ _ => pg_name (i := 9) scCompany.nd rfl (Or.inl rfl)) (fun _ _ _ _ _ => pts_nil)
              (fun _ _ _ _ _ => pe_ifExp (pt_cmpR op_eq (pv 9) (pv 6) (nomark _)) (pv 7) (pe_use UT hr1 (by rfl) (pa_cons (pv 4) (pa_cons (pv 6) (pa_cons (pv 9) pa_nil))))))) pss_nil)
        (pss_one (ps_expr (pe_bm PySem.F.plainAttrs_list PySem.F.slot_list_append PySem.F.type_list_append mt_append (pv 4) (pa_cons (pv 8) pa_nil))))))))
      (pss_one (ps_ret (pe_use UN hr2 (by rfl) (pa_cons (pv 4) (pa_cons (pe_use UO hr (by rfl) (pa_cons (pv 0) (pa_cons (pv 2) pa_nil))) pa_nil))))))), ?_⟩
    refine ⟨_, rfl, g, 3, n + 19995, rfl, by decide, by decide, G, fun r H1 r0 r1 G1 b1 => ⟨rfl, _, rfl, ite2 (fun c => ?_) (fun c => ?_)⟩⟩
    · -- drawn ties
      refine ⟨_, rfl, m, rfl, by omega, by omega, fun D hD => ?_⟩
      have hD0 : H D = none := but_free b1 G1 hD
      have gD : D ≠ g := (G.ne hD0).symm
      refine lc_it (walk_range (lo := 0) (n := (m : Int).toNat)) (fun i H' => But g H H' ∧ Gen H' g (n + 19000 - 250 * i) ∧ ∃ rs kss, Tab H' D rs kss ∧ kss.length = i ∧ Fine k kss ∧ D ∉ rs ∧ ∀ r ∈ rs, H r = none)
        ⟨b1.trans (But.new hD), (G1.new hD).less (by omega), [], [], ⟨upd_same, rfl, fun i r ks h => by simp at h, List.nodup_nil⟩, rfl, Fine.nil, by simp, by simp⟩ (fun _ _ _ _ => trivial) ?_ ?_
      · rintro i y H' H'' hi ⟨bt, G', rs, kss, t, lk, fine, nD, nR⟩ ⟨rfl, rfl⟩
        have gr : g ∉ rs := notin_new G nR
        refine ⟨rfl, yes_of ?_⟩
        refine ⟨_, rfl, (0 + (i : Int)), rfl, by omega, by omega, fun D2 hD2 => ?_⟩
        have gD2 : D2 ≠ g := (G'.ne hD2).symm
        refine lc_it (walk_range (lo := 0) (n := (0 + (i : Int)).toNat)) (fun j H5 => But g H'' H5 ∧ Gen H5 g (n + 19000 - 250 * i - 5 * j) ∧ ∃ ks : List Int, H5 D2 = some (.lst (ks.map V.int)) ∧ ks.length = j ∧ ∀ z ∈ ks, 0 ≤ z ∧ z < k)
          ⟨But.new hD2, G'.new hD2, [], upd_same, rfl, by simp⟩ (fun _ _ _ _ => trivial) ?_ ?_
        · rintro j y H5 H6 hj ⟨b5, G5, ks, h5, l5, bb⟩ ⟨rfl, rfl⟩
          refine ⟨rfl, yes_of ?_⟩
          refine ⟨_, rfl, _, rfl, g, k, n + 19000 - 250 * i - 5 * (j + 1), rfl, by omega, by omega, G5.less (by omega), fun r2 H7 q0 q1 G7 b7 => ⟨_, b7 _ _ h5 gD2, ?_, ?_, G7.other gD2, ks ++ [r2], ?_, ?_, ?_⟩⟩
          · rw [List.length_map]
            exact small1000 (by omega)
          · intro b o e nb
            rw [upd_ne (ne_of_none e hD2)]
            exact b7 b o (b5 b o e nb) nb
          · rw [upd_same, List.map_append]
            rfl
          · rw [List.length_append, l5]
            rfl
          · intro z hz
            rcases List.mem_append.mp hz with hz | hz
            · exact bb z hz
            · rw [List.mem_singleton] at hz
              subst hz
              exact ⟨q0, by omega⟩
        · rintro H5 ⟨b5, G5, ks, h5, l5, bb⟩
          obtain ⟨t2, n2⟩ := t.push nD (H4 := H5) (fun r hr o e => b5 r o e fun z => gr (by rw [← z]; exact hr)) hD2 h5
          refine ⟨_, b5 _ _ t.top gD, ?_, ?_, (G5.less (by omega)).other gD, _, _, t2, ?_, fine.push (by omega) bb, n2, ?_⟩
          · rw [List.length_map, t.len]
            exact small1000 (by omega)
          · intro b o e nb
            rw [upd_ne (ne_of_none e hD0)]
            exact b5 b o (bt b o e nb) nb
          · rw [List.length_append, lk]
            rfl
          · intro r hr
            rcases List.mem_append.mp hr with hr | hr
            · exact nR r hr
            · rw [List.mem_singleton] at hr
              subst hr
              exact but_free bt G' hD2
      · rintro H' ⟨bt, G', rs, kss, t, lk, fine, nD, nR⟩
        exact q D H' bt (G'.less (by omega)) ⟨rs, kss, t, by omega, fine, nD, hD0, nR⟩
    · -- people put beside others
      refine ⟨Nat.zero_le _, fun l0 hl0 => ⟨(by show 1 ≤ sizeLine; decide), fun f0 hf0 => ?_⟩⟩
      have hl00 : H l0 = none := but_free b1 G1 hl0
      have hf1 : H1 f0 = none := (same_new hl0).free hf0
      have hf00 : H f0 = none := but_free b1 G1 hf1
      have lf : l0 ≠ f0 := fun z => by
        rw [← z, upd_same] at hf0
        cases hf0
      have gf : g ≠ f0 := G.ne hf00
      refine ⟨_, rfl, 1, m, rfl, ⟨by omega, by omega, by omega, by omega⟩, ?_⟩
      refine for_range (lo := 1) (n := ((m : Int) - 1).toNat) (CI H g f0 k m n) ⟨none, none, none, none, none, rfl, (b1.trans (But.new hl0)).trans (But.new hf0), ((G1.new hl0).new hf0).less (by omega), [l0], [[]], ⟨upd_same, rfl, ?_, by simp⟩, rfl, ?_, ?_, hf00, ?_⟩ ?_ ?_
      · intro i r ks h1 h2
        have i0 : i = 0 := by
          have := (List.getElem?_eq_some_iff.mp h1).1
          simp at this
          exact this
        subst i0
        cases h1
        cases h2
        rw [upd_ne lf, upd_same]
        rfl
      · intro i ks h
        have i0 : i = 0 := by
          have := (List.getElem?_eq_some_iff.mp h).1
          simp at this
          exact this
        subst i0
        cases h
        exact ⟨rfl, by simp⟩
      · rw [List.mem_singleton]
        exact lf.symm
      · intro r hr
        rw [List.mem_singleton] at hr
        subst hr
        exact hl00
      · rintro i σ H' hi ⟨pv0, wv, ov, kv, rv, rfl, bt, G', rs, kss, t, lk, fine, nf, _, nR⟩
        have gr : g ∉ rs := notin_new G nR
        refine ⟨_, rfl, g, 3, n + 19000 - 15 * i - 5, rfl, by decide, by decide, G'.less (by omega), fun wy Ha w0 w1 Ga ba => ?_⟩
        refine ⟨_, rfl, _, rfl, g, 1 + (i : Int), n + 19000 - 15 * i - 10, rfl, by omega, by omega, Ga.less (by omega), fun one Hb o0 o1 Gb bb => ?_⟩
        obtain ⟨u, rfl⟩ : ∃ u : Nat, one = (u : Int) := ⟨one.toNat, by omega⟩
        refine ⟨_, rfl, _, rfl, g, k, n + 19000 - 15 * i - 15, rfl, by omega, by omega, Gb.less (by omega), fun kd Hc kk0 kk1 Gc bc => ?_⟩
        refine ⟨(by show 3 ≤ sizeLine; decide), fun t3 ht3 => ?_⟩
        refine ⟨t3, _, rfl, SqT.of upd_same, rfl, _, _, rfl, _, _, rfl, _, _, rfl, rfl, ?_⟩
        refine ⟨_, rfl, (by show 1 ≤ sizeLine; decide), fun l hl => ⟨_, rfl, l, _, _, rfl, rfl, upd_same, by omega, by omega, ?_, fun p hp => ?_⟩⟩
        · have : ([V.int kd] : List V).length * (1 + (i : Int)).toNat ≤ 1000 := by
            show 1 * (1 + (i : Int)).toNat ≤ 1000
            omega
          exact Nat.le_of_lt (small1000 this)
        have bHc : But g H' Hc := (ba.trans bb).trans bc
        have hpc : Hc p = none := (same_new ht3).free ((same_new hl).free hp)
        have hpH : H' p = none := but_free bHc Gc hpc
        have b4 : But g H' (upd (upd (upd Hc t3 (.tup [V.int wy, V.int (u : Int), V.int kd])) l (.lst [V.int kd])) p (.lst (List.replicate (1 + (i : Int)).toNat [V.int kd]).flatten)) := bHc.trans ((But.new ht3).trans ((But.new hl).trans (But.new hp)))
        have G4 : Gen (upd (upd (upd Hc t3 (.tup [V.int wy, V.int (u : Int), V.int kd])) l (.lst [V.int kd])) p (.lst (List.replicate (1 + (i : Int)).toNat [V.int kd]).flatten)) g (n + 19000 - 15 * (i + 1)) := (((Gc.new ht3).new hl).new hp).less (by omega)
        have szf : (rs.map V.ref).length < sizeLine := by
          rw [List.length_map, t.len]
          exact small1000 (by omega)
        refine ⟨_, rfl, _, _, rfl, rfl, _, rfl, ite2 (fun cw => ?_) (fun cw => ?_)⟩
        · refine ⟨_, rfl, 1 + (i : Int), rfl, by omega, by omega, fun D2 hD2 => ?_⟩
          refine lc_it (walk_range (lo := 0) (n := (1 + (i : Int)).toNat)) (fun j H5 => Same (upd (upd (upd Hc t3 (.tup [V.int wy, V.int (u : Int), V.int kd])) l (.lst [V.int kd])) p (.lst (List.replicate (1 + (i : Int)).toNat [V.int kd]).flatten)) H5 ∧ ∃ ks : List Int, H5 D2 = some (.lst (ks.map V.int)) ∧ ks.length = j ∧ ∀ z ∈ ks, 0 ≤ z ∧ z < k)
            ⟨same_new hD2, [], upd_same, rfl, by simp⟩ (fun _ _ _ _ => trivial) ?_ ?_
          · rintro j y H5 H6 hj ⟨s5, ks, h5, l5, bb5⟩ ⟨rfl, rfl⟩
            have more : ∀ (z : Int), 0 ≤ z → z < k → ∃ acc, H6 D2 = some (.lst acc) ∧ acc.length < sizeLine ∧ Same (upd (upd (upd Hc t3 (.tup [V.int wy, V.int (u : Int), V.int kd])) l (.lst [V.int kd])) p (.lst (List.replicate (1 + (i : Int)).toNat [V.int kd]).flatten)) (upd H6 D2 (.lst (acc ++ [V.int z]))) ∧
                ∃ ks : List Int, (upd H6 D2 (.lst (acc ++ [V.int z]))) D2 = some (.lst (ks.map V.int)) ∧ ks.length = j + 1 ∧ ∀ z ∈ ks, 0 ≤ z ∧ z < k := by
              intro z z0 z1
              refine ⟨_, h5, ?_, fun b o e => ?_, ks ++ [z], ?_, ?_, ?_⟩
              · rw [List.length_map]
                exact small1000 (by omega)
              · rw [upd_ne (ne_of_none e hD2)]
                exact s5 b o e
              · rw [upd_same, List.map_append]
                rfl
              · rw [List.length_append, l5]
                rfl
              · intro z' hz
                rcases List.mem_append.mp hz with hz | hz
                · exact bb5 z' hz
                · rw [List.mem_singleton] at hz
                  subst hz
                  exact ⟨z0, z1⟩
            refine ⟨rfl, yes_of ?_⟩
            refine ⟨_, rfl, _, rfl, rfl, _, rfl, ite2 (fun ce => ?_) (fun ce => ?_)⟩
            · exact ⟨_, rfl, more kd kk0 (by omega)⟩
            · have ne : u ≠ j := fun z => ce (by
                subst z
                exact decide_eq_true (show V.int (0 + (u : Int)) = V.int (u : Int) by rw [Int.zero_add]))
              have tin := tieN_in fine (by omega : u < kss.length) (by omega : j < kss.length) ne
              refine ⟨_, rfl, _, rfl, _, rfl, f0, rs, kss, k, u, j, (show [V.ref f0, V.int (u : Int), V.int (0 + (j : Int))] = [V.ref f0, V.int (u : Int), V.int (j : Int)] by rw [Int.zero_add]), (t.but b4 gf.symm gr).same s5, fine, by omega, by omega, ne, more _ tin.1 tin.2⟩
          · rintro H5 ⟨s5, ks, h5, l5, bb5⟩
            obtain ⟨e1, e2⟩ := CI.next (k := k) (m := m) (n := n) (pv := some (V.int (1 + (i : Int)))) (wv := some (V.int wy)) (ov := some (V.int (u : Int))) (kv := some (V.int kd)) (rv := some (V.ref D2)) G bt G' t lk fine nf hf00 nR (b4.trans (.of s5)) (G4.same s5) (but_free b4 G4 hD2) h5 (by omega) bb5
            exact ⟨_, rfl, .inl ⟨rfl, _, SqL.of e1⟩, _, rfl, f0, _, _, rfl, rfl, e1, szf, e2⟩
        · obtain ⟨e1, e2⟩ := CI.next (k := k) (m := m) (n := n) (ks := List.replicate (1 + (i : Int)).toNat kd) (pv := some (V.int (1 + (i : Int)))) (wv := some (V.int wy)) (ov := some (V.int (u : Int))) (kv := some (V.int kd)) (rv := some (V.ref p)) G bt G' t lk fine nf hf00 nR b4 G4 hpH (by rw [upd_same, rep_one]) (by rw [List.length_replicate]; omega) (fun z hz => by
            rw [List.eq_of_mem_replicate hz]
            exact ⟨kk0, by omega⟩)
          exact ⟨_, rfl, .inl ⟨rfl, _, SqL.of e1⟩, _, rfl, f0, _, _, rfl, rfl, e1, szf, e2⟩
      · rintro σ H' ⟨pv0, wv, ov, kv, rv, rfl, bt, G', rs, kss, t, lk, fine, nf, _, nR⟩
        have gr : g ∉ rs := notin_new G nR
        refine ⟨_, rfl, _, rfl, _, rfl, g, m, n + 1000, rfl, by omega, G'.less (by omega), fun o Ho os bo ho Go hos pm => ?_⟩
        have nd : os.Nodup := pm.nodup_iff.mpr List.nodup_range
        have lo : os.length = m := by rw [pm.length_eq, List.length_range]
        have bd : ∀ j ∈ os, j < kss.length := fun j hj => by
          have := List.mem_range.mp (pm.mem_iff.mp hj)
          omega
        refine ⟨f0, o, rs, kss, k, os, rfl, t.but bo gf.symm gr, fine, hos, nd, bd, by omega, fun p ps Hp sp u np hp hn => ?_⟩
        have cp : CoN Ho Hp k p m := ⟨ps, namedK kss os, u, by rw [named_len]; exact lo, named_fine fine nd bd, np, hp, hn⟩
        exact q p Hp ((bt.trans bo).trans (.of sp)) ((Go.same sp).less (by omega)) (cp.back fun a ha => but_free (bt.trans bo) Go ha)

abbrev sAlike2 : Stmt := topS 51
abbrev nAlike2 : List Str := ["_law_company_here", "_law_one", "_law_other", "_law_person"]
theorem scAlike2 : FnScope nAlike2 ["_law_company_here", "_law_one", "_law_other"] (defScope sAlike2) := ⟨rfl, rfl, rfl, by decide +kernel, rfl, by decide +kernel, by decide +kernel⟩
theorem ok_alike2 {f : Addr} {fd : FuncData} (F : Fun K "_law_alike" "_law_alike" sAlike2 f fd) (T : Bi mg) (UT : Use P w K mg base "_law_tie" ["_law_company_here", "_law_one", "_law_other"] spTie 1) : FnOk P w K mg base CX0 2 f fd ["_law_company_here", "_law_one", "_law_other"] spAlike2 := by
  refine F.ok scAlike2 (fun vs H Q E h => ?_) (fun cdv A outer s H vs Q E hr h => ?_)
  · obtain ⟨c, rs, kss, k, a, b, rfl, _⟩ := h
    rfl
  · obtain ⟨c, rs, kss, k, a, b, rfl, t, fine, n100, al, bl, q⟩ := h
    refine ⟨_, pss_cons (ps_for PassesOwn.never rfl (pi_range1 (by rfl) T.range (pa_cons (pe_callB call_len_seq (by rfl) T.len PySem.boot_len (pa_cons (pv 0) pa_nil)) pa_nil)) (pg_name (i := 3) scAlike2.nd rfl (Or.inl rfl))
        (pss_one (ps_if (PW.pt (pw_and (pt_cmpR op_ne (pv 3) (pv 1) (nomark _)) (pw_and (pt_cmpR op_ne (pv 3) (pv 2) (nomark _)) (pw_and1 (pt_cmpR op_ne (pe_use UT hr (by rfl) (pa_cons (pv 0) (pa_cons (pv 3) (pa_cons (pv 1) pa_nil)))) (pe_use UT hr (by rfl) (pa_cons (pv 0) (pa_cons (pv 3) (pa_cons (pv 2) pa_nil)))) (nomark _))))))
          (pss_one (ps_ret pe_bl)) pss_nil)))
      (pss_one (ps_ret pe_bl)), ?_⟩
    have lr : (rs.map V.ref).length = kss.length := by rw [List.length_map, t.len]
    refine ⟨_, rfl, c, _, rfl, .inl (SqL.of t.top), _, rfl, by omega, by omega, ?_⟩
    rw [lr]
    refine for_range (lo := 0) (n := (kss.length : Int).toNat) (fun i σ H' => ∃ m : Option V, σ = [some (.ref c), some (.int a), some (.int b), m] ∧ H' = H ∧ ∀ j, j < i → (j == a || j == b || decide (tieN kss j a = tieN kss j b)) = true)
      ⟨none, rfl, rfl, fun j hj => absurd hj (Nat.not_lt_zero j)⟩ ?_ ?_
    · rintro i σ H' hi ⟨m, rfl, rfl, yes⟩
      have il : i < kss.length := by omega
      have i0 : (0 + (i : Int)) = (i : Int) := Int.zero_add _
      have next : (i == a || i == b || decide (tieN kss i a = tieN kss i b)) = true → ∃ m : Option V, [some (V.ref c), some (.int a), some (.int b), some (.int (0 + (i : Int)))] = [some (.ref c), some (.int a), some (.int b), m] ∧ H' = H' ∧ ∀ j, j < i + 1 → (j == a || j == b || decide (tieN kss j a = tieN kss j b)) = true := fun z =>
        ⟨_, rfl, rfl, fun p hp => by
          by_cases c : p = i
          · subst c
            exact z
          · exact yes p (by omega)⟩
      have dn : ∀ x : Nat, decide (V.int (0 + (i : Int)) = V.int (x : Nat)) = (i == x) := fun x => by
        rw [i0]
        by_cases c : i = x
        · subst c; simp
        · have : ¬ ((i : Nat) : Int) = (x : Nat) := by omega
          simp [c, this]
      refine ⟨_, rfl, _, rfl, rfl, _, rfl, ?_⟩
      rw [dn]
      by_cases ia : i = a
      · have e : (i == a) = true := by simpa using ia
        rw [e]
        exact iteF (iteF (next (by rw [ia]; simp)))
      · have eA : (i == a) = false := by simpa using ia
        rw [eA]
        refine iteT ⟨_, rfl, _, rfl, rfl, _, rfl, ?_⟩
        rw [dn]
        by_cases ib : i = b
        · have e : (i == b) = true := by simpa using ib
          rw [e]
          exact iteF (iteF (next (by rw [ib]; simp)))
        · have eB : (i == b) = false := by simpa using ib
          rw [eB]
          refine iteT ⟨_, rfl, _, rfl, _, rfl, c, rs, kss, k, i, a, (show [V.ref c, V.int (0 + (i : Int)), V.int (a : Int)] = [V.ref c, V.int (i : Int), V.int (a : Int)] by rw [i0]), t, fine, il, al, ia, ?_⟩
          refine ⟨_, rfl, _, rfl, _, rfl, c, rs, kss, k, i, b, (show [V.ref c, V.int (0 + (i : Int)), V.int (b : Int)] = [V.ref c, V.int (i : Int), V.int (b : Int)] by rw [i0]), t, fine, il, bl, ib, rfl, _, rfl, ?_⟩
          by_cases c3 : tieN kss i a = tieN kss i b
          · refine iteNS (by rw [c3]) ?_
            exact next (by rw [c3]; simp)
          · have ef : alikeB kss a b = false := by
              cases h : alikeB kss a b with
              | false => rfl
              | true =>
                have := List.all_eq_true.mp h i (List.mem_range.mpr il)
                rw [eA, eB] at this
                simp [c3] at this
            rw [ef] at q
            exact ite2 (fun _ => q) (fun z => (z (by simp [c3])).elim)
    · rintro σ H' ⟨m, rfl, rfl, yes⟩
      have ea : alikeB kss a b = true := List.all_eq_true.mpr fun j hj => yes j (by have := List.mem_range.mp hj; omega)
      rw [ea] at q
      exact q

abbrev sYes : Stmt := topS 48
theorem scYes : FnScope ["_law_told", "_law_due"] ["_law_told", "_law_due"] (defScope sYes) := ⟨rfl, rfl, rfl, by decide +kernel, rfl, by decide +kernel, by decide +kernel⟩
theorem ok_yes {f : Addr} {fd : FuncData} (F : Fun K "_law_yes" "_law_yes" sYes f fd) (T : Bi mg) : FnOk P w K mg base CX0 1 f fd ["_law_told", "_law_due"] spYes := by
  refine F.ok scYes (fun vs H Q E h => ?_) (fun cdv A outer s H vs Q E hr h => ?_)
  · obtain ⟨b, rfl, _⟩ := h
    rfl
  · obtain ⟨b, rfl, q⟩ := h
    refine ⟨_, pss_one (ps_ret (pe_and (pe_callB call_isi (by rfl) T.isinstance (by decide +kernel) (pa_cons (pv 0) (pa_cons (pe_bltn (v := .ty "bool") (by rfl) T.bool (by decide +kernel) rfl) pa_nil))) (pe_one (pe_cmpR op_eq (pv 0) (pv 1) (nomark _))))), ?_⟩
    refine ⟨_, rfl, _, _, _, _, _, rfl, .ty "bool", (Dt.bl (K := K) b).ty, kit_bool (.bool b), _, rfl, iteT ⟨_, rfl, _, rfl, rfl, ?_⟩⟩
    show Q (V.bl (decide (V.bl b = V.bl b))) H
    rw [decide_eq_true rfl]
    exact q

end
end K03

namespace GL
open PySem PySem.Spec PyProof.Rows L2
section
variable {X : Cx} {a b c d : Expr} {ta tb tc td : TE} {pos : Pos}
/-- a op1 b op2 c op3 d -/
def tChain3 (r r' r'' : R2) (ta tb tc td : TE) : TE := fun σ H Q => ta σ H fun x H1 => tb σ H1 fun y H2 => r x y H2 fun z H3 => ∃ k, z = .bl k ∧
  (if k = true then tc σ H3 fun w' H4 => r' y w' H4 fun z' H5 => ∃ k', z' = .bl k' ∧ (if k' = true then td σ H5 fun u' H6 => r'' w' u' H6 Q else Q (.bl false) H5) else Q (.bl false) H3)
theorem pt_chain3 {op op' op'' : CmpOp} {r r' r'' : R2} (ho : OpR X (compareOp op) r) (ho' : OpR X (compareOp op') r') (ho'' : OpR X (compareOp op'') r'') (ha : PE X a ta) (hb : PE X b tb) (hc : PE X c tc) (hd : PE X d td)
    (hm : lastMarks [op, op', op''] [b, c, d] = false := by with_unfolding_all rfl) : PT X (.Compare a [op, op', op''] [b, c, d] pos) (tTest (tChain3 r r' r'' ta tb tc td)) := by
  refine ⟨fun pins s σ H Q I h => ?_⟩
  refine isTrue_chain (thn (ha.run pins s σ H _ I h) fun v s1 ⟨x, H1, I1, r1, q1⟩ => test_link (thn (hb.run pins s1 σ H1 _ I1 q1) fun u s2 ⟨y, H2, I2, r2, q2⟩ =>
    thn (ho pins s2 σ H2 x y v u _ I2 r1 r2 q2) fun e s3 ⟨z, H3, I3, r3, k, e1, q3⟩ => ?_)) hm
  subst e1
  cases r3
  refine wpAny_truthy_bool ?_
  cases k with
  | false =>
    obtain ⟨k', e', q'⟩ := q3
    cases e'
    exact ite_ff ⟨H3, I3, q'⟩
  | true =>
    refine ite_tt (test_link (thn (hc.run pins s3 σ H3 _ I3 q3) fun w' s4 ⟨z', H4, I4, r4, q4⟩ => thn (ho' pins s4 σ H4 y z' u w' _ I4 r2 r4 q4) fun d' s5 ⟨z2, H5, I5, r5, k2, e2, q5⟩ => ?_))
    subst e2
    cases r5
    refine wpAny_truthy_bool ?_
    cases k2 with
    | false =>
      obtain ⟨k', e', q'⟩ := q5
      cases e'
      exact ite_ff ⟨H5, I5, q'⟩
    | true =>
      refine ite_tt (test_last (thn (hd.run pins s5 σ H5 _ I5 q5) fun w3 s6 ⟨z3, H6, I6, r6, q6⟩ => thn (ho'' pins s6 σ H6 z' z3 w' w3 _ I6 r4 r6 q6) fun d3 s7 ⟨z4, H7, I7, r7, k3, e3, q7⟩ => ?_))
      subst e3
      cases r7
      exact wpAny_truthy_bool ⟨H7, I7, q7⟩
end
def spRetied : Sp := fun vs H Q _ => ∃ (c t : Addr) (rs : List Addr) (kss : List (List Int)) (k : Int) (a b : Nat) (v : Int), vs = [.ref c, .ref t] ∧ Tab H c rs kss ∧ Fine k kss ∧ kss.length ≤ 40 ∧ H t = some (.tup (deedV3 (a, b, v))) ∧ a < b ∧ b < kss.length ∧
  ∀ (p : Addr) (ps : List Addr) (H' : Hp), Same H H' → Tab H' p ps (setT kss b a v) → H p = none → (∀ r ∈ ps, H r = none) → Q (.ref p) H'
def spRoadL : Sp := fun vs H Q _ => ∃ (g : Addr) (k : Int) (c : Addr) (m n : Nat) (rs : List Addr) (kss : List (List Int)), vs = [.ref g, .int k, .ref c, .int m] ∧ 2 ≤ k ∧ k ≤ 9 ∧ m ≤ 20 ∧ Gen H g (n + 5 * m) ∧ Tab H c rs kss ∧ Fine k kss ∧ kss.length ≤ 40 ∧ c ≠ g ∧ g ∉ rs ∧
  ∀ (T R p : Addr) (ts : List DeedT) (ps : List Addr) (ks : List (List Int)) (H' : Hp), But g H H' → Gen H' g n → H' T = some (.tup [.ref R, .ref p]) → Deeds H H' R ts → H R = none → ts.length ≤ m → Tab H' p ps ks → p ≠ g → g ∉ ps → followK k kss (ts.map fun t => deedP t.2) 0 = (ks, ts.length) → Q (.ref T) H'
def spIsDeedL (K : PySem.W.Frag) : Sp := fun vs H Q _ => ∃ (k : Int) (c : Addr) (x : V) (d : PyData) (rs : List Addr) (kss : List (List Int)), vs = [.int k, .ref c, x] ∧ Tab H c rs kss ∧ Fine k kss ∧ kss.length ≤ 40 ∧ Dt K H x d ∧ ∀ H', Same H H' → Q (.bl (deedB k kss d)) H'
theorem follow_more {k : Int} : ∀ {ds : List PyData} {kss ks : List (List Int)} {i : Nat} {d : PyData}, followK k kss ds i = (ks, i + ds.length) → deedB k ks d = true → followK k kss (ds ++ [d]) i = (doD ks d, i + ds.length + 1)
  | [], kss, ks, i, d, h, hB => by
    have e : kss = ks := congrArg (·.1) h
    subst e
    show followK k kss (d :: []) i = _
    rw [follow_cons, hB, if_pos rfl]
    rfl
  | x :: ds, kss, ks, i, d, h, hB => by
    rw [follow_cons] at h
    show followK k kss (x :: (ds ++ [d])) i = _
    rw [follow_cons]
    cases hx : deedB k kss x with
    | false =>
      rw [hx, if_neg (by decide)] at h
      have := congrArg (·.2) h
      simp at this
    | true =>
      rw [hx, if_pos rfl] at h
      rw [if_pos rfl]
      have := follow_more (i := i + 1) (d := d) (ds := ds) (kss := doD kss x) (ks := ks) (by rw [h, List.length_cons]; congr 1; omega) hB
      rw [this, List.length_cons]
      congr 1
      omega
theorem deeds_mem {k : Int} {kss : List (List Int)} {c : Nat × Nat × Int} (k0 : 0 ≤ k) (h : c ∈ deedsL k kss) : c.1 < c.2.1 ∧ c.2.1 < kss.length ∧ 0 ≤ c.2.2 ∧ c.2.2 < k ∧ c.2.2 ≠ tieN kss c.1 c.2.1 ∧ alikeB kss c.1 c.2.1 = true := by
  obtain ⟨x, h1, h2⟩ := List.mem_flatMap.mp h
  obtain ⟨h3, h4⟩ := List.mem_filter.mp h1
  obtain ⟨w1, w2, w3⟩ := (cpl_mem _ _ x.1 x.2).mp h3
  obtain ⟨v, hv, rfl⟩ := List.mem_map.mp h2
  obtain ⟨v1, v2⟩ := List.mem_filter.mp hv
  have := List.mem_range.mp v1
  refine ⟨w2, w3, by show (0 : Int) ≤ (v : Int); omega, by show (v : Int) < k; omega, ?_, h4⟩
  show (v : Int) ≠ tieN kss x.1 x.2
  rw [tieN_comm]
  simpa using v2
theorem deed_ok {k : Int} {kss : List (List Int)} {c : Nat × Nat × Int} (k0 : 0 ≤ k) (h : c ∈ deedsL k kss) : deedB k kss (deedP c) = true := by
  obtain ⟨h1, h2, h3, h4, h5, h6⟩ := deeds_mem k0 h
  unfold deedP
  rw [deed_of h1 h2, below_of h3 h4, h6, decide_eq_false h5]
  rfl
theorem do_deed (kss : List (List Int)) (c : Nat × Nat × Int) : doD kss (deedP c) = setT kss c.2.1 c.1 c.2.2 := rfl
end GL
namespace GL
open PySem PySem.Spec PyProof.Rows L2
abbrev gQ210 := gK
abbrev gQV210 := gKV
theorem gQ210_rel {vs : List V} {us : List Value} {zs : List V} {ws : List Value} (a : Vals vs us) (b : Vals zs ws) : Vals (gQV210 vs zs) (gQ210 us ws) := gK_rel a b
abbrev gQ10 := gK2
abbrev gQV10 := gKV2
theorem gQ10_rel {vs : List V} {us : List Value} {zs : List V} {ws : List Value} (a : Vals vs us) (b : Vals zs ws) : Vals (gQV10 vs zs) (gQ10 us ws) := gK2_rel a b
/-- all but g stays where g alone is drawn from -/
theorem But.hid {g : Addr} {H H' : Hp} (b : But g H H') : Same (hid H g) (hid H' g) := fun x o e => by
  have n := hid_none e
  rw [hid_ne n] at e ⊢
  exact b _ _ e n
theorem gen2 (H : Hp) {p g : Addr} {n : Nat} (h : H p = none) (G : Gen H g n) (o : HO) : ∃ H', upd H p o = H' ∧ Same H H' ∧ H' p = some o ∧ Same (GL.hid H g) (GL.hid H' g) ∧ GL.hid H' g p = some o ∧ Gen H' g n := by
  obtain ⟨H', e, s, f⟩ := gen H h o
  have pg : p ≠ g := (G.ne h).symm
  exact ⟨H', e, s, f, hid_mono s, hid_in f pg, G.same s⟩
def spBentL (K : PySem.W.Frag) : Sp := fun vs H Q _ => ∃ (g : Addr) (k : Int) (c t : Addr) (n : Nat) (rs : List Addr) (kss : List (List Int)) (a b : Nat) (v : Int), vs = [.ref g, .int k, .ref c, .ref t] ∧ 2 ≤ k ∧ k ≤ 9 ∧ Gen H g (n + 100) ∧ Tab H c rs kss ∧ 1 ≤ kss.length ∧ kss.length ≤ 40 ∧ H t = some (.tup (deedV3 (a, b, v))) ∧
  ∀ (p : Addr) (xs : List V) (ds : List PyData) (H' : Hp), But g H H' → Gen H' g n → H' p = some (.lst xs) → p ≠ g → Dts K (hid H' g) xs ds → xs.length ≤ 200 → Q (.ref p) H'
end GL

namespace K03
open PySem PySem.Spec PyProof.Rows
open L2
open GL
def spDeedsM : Sp := fun vs H Q _ => ∃ (k : Int) (c : Addr) (rs : List Addr) (kss : List (List Int)), vs = [.int k, .ref c] ∧ 2 ≤ k ∧ k ≤ 9 ∧ Tab H c rs kss ∧ Fine k kss ∧ kss.length ≤ 40 ∧
  ∀ (p : Addr) (ts : List DeedT) (H' : Hp), Same H H' → H p = none → Deeds H H' p ts → ts.map (·.2) = deedsL k kss → Q (.ref p) H'
section
variable {P : Program} {w : World} {K : PySem.W.Frag} {mg : Str → Option Value} {base : Heap}
abbrev sRetied : Stmt := topS 54
abbrev nRetied : List Str := ["_law_company_here", "_law_deed", "_law_found", "_law_row"]
theorem scRetied : FnScope nRetied ["_law_company_here", "_law_deed"] (defScope sRetied) := ⟨rfl, rfl, rfl, by decide +kernel, rfl, by decide +kernel, by decide +kernel⟩
theorem ok_retied {f : Addr} {fd : FuncData} (F : Fun K "_law_retied" "_law_retied" sRetied f fd) (T : Bi mg) : FnOk P w K mg base CX0 1 f fd ["_law_company_here", "_law_deed"] spRetied := by
  refine F.ok scRetied (fun vs H Q E h => ?_) (fun cdv A outer s H vs Q E hr h => ?_)
  · obtain ⟨c, t, rs, kss, k, a, b, v, rfl, _⟩ := h
    rfl
  · obtain ⟨c, t, rs, kss, k, a, b, v, rfl, tb, fine, n40, ht, ab, bn, q⟩ := h
    refine ⟨_, (pss_cons (ps_setLc (i := 2) (own := [("_law_row", 3)]) (g := (gName 3)) (tt := tYes) (te := (tCB (rLstL K) (tCons (tVar 3) tNil))) rfl scRetied.nd rfl rfl (sw_true rfl rfl rfl (by decide +kernel)) (pi_list (pv 0))
          (blkOk_by (N := nRetied) (sc := (defScope sRetied)) (by decide +kernel)) (fun _ _ _ _ _ => (pg_name (i := 3) scRetied.nd rfl (Or.inl rfl))) (fun _ _ _ _ _ => by exact pts_nil)
          (fun _ _ _ _ _ => by exact (pe_callTy call_lstL (by rfl) T.list PyProof.Rows.boot_list (pa_cons (pv 3) pa_nil))))
      (pss_cons (ps_asg (pe_ix ix_tup (pv 1) pe_int (fun _ _ => rfl))
          (pg_sub (pe_ix ix_list (pv 2) (pe_ix ix_tup (pv 1) pe_int (fun _ _ => rfl)) (fun _ _ => rfl)) (pe_ix ix_tup (pv 1) pe_int (fun _ _ => rfl)) set_list))
      (pss_one (ps_ret (pv 2))))), ?_⟩
    obtain ⟨m, hm⟩ : ∃ m, kss.length = m := ⟨_, rfl⟩
    have lr : (rs.map V.ref).length = m := by rw [List.length_map, tb.len, hm]
    refine ⟨_, rfl, c, rfl, ⟨_, SqL.of tb.top⟩, fun D hD => ?_⟩
    refine lc_objs (walk_list (K := K) (a := c) (xs := rs.map V.ref)) (fun i => .lst ((kss.getD i []).map V.int)) hD (by rw [lr, sizeLine_eq]; omega) (fun H' s' => SqL.of (s' _ _ tb.top)) ?_ ?_
    · rintro x y H5 H6 M hx s6 ⟨rfl, ey⟩ hM
      rw [lr] at hx
      obtain ⟨r, ks, r1, r2, r3⟩ := tb.at (i := x) (by omega)
      rw [List.getElem?_map, r1] at ey
      cases ey
      refine ⟨rfl, _, rfl, r, _, rfl, SqL.of (s6 _ _ r3), fun l hl => ?_⟩
      obtain ⟨H7, e7, s7, f7⟩ := gen H6 hl (.lst (ks.map V.int))
      rw [e7]
      refine hM H7 l s7 hl ?_
      rw [f7, List.getD_eq_getElem?_getD, r2]
      rfl
    intro H1 ps s1 ob
    rw [lr] at ob
    have tp := ob.tab hm
    have h1 := s1 _ _ ht
    obtain ⟨r, ks, r1, r2, r3⟩ := tp.at (i := b) (by omega)
    have lks : ks.length = b := (fine b ks r2).1
    have rm := List.mem_of_getElem? r1
    refine ⟨_, rfl, t, _, _, _, rfl, rfl, SqT.of h1, at_of (j := 2) rfl rfl, ?_⟩
    refine ⟨_, rfl, _, rfl, t, _, _, _, rfl, rfl, SqT.of h1, at_of (j := 1) rfl rfl, D, _, _, _, rfl, rfl, SqL.of tp.top, atI_nat (j := b) (by rw [List.getElem?_map, r1]; rfl), ?_⟩
    refine ⟨_, rfl, t, _, _, _, rfl, rfl, SqT.of h1, at_of (j := 0) rfl rfl, r, _, _, a, rfl, rfl, r3, ixN_nat (j := a) (by rw [List.length_map]; omega), ?_⟩
    have t2 := tp.put (a := a) (v := v) r1 r2 ob.out
    refine ⟨_, rfl, q D ps _ (fun x o e => ?_) t2 hD ob.new⟩
    rw [upd_ne (ne_of_none e (ob.new r rm))]
    exact s1 _ _ e
abbrev sDeedsM : Stmt := topS 57
abbrev nDeedsM : List Str := ["_law_kinds", "_law_company_here", "_law_found", "_law_one", "_law_other", "_law_kind"]
theorem scDeedsM : FnScope nDeedsM ["_law_kinds", "_law_company_here"] (defScope sDeedsM) := ⟨rfl, rfl, rfl, by decide +kernel, rfl, by decide +kernel, by decide +kernel⟩
theorem ok_deedsM {f : Addr} {fd : FuncData} (F : Fun K "_law_deeds" "_law_deeds" sDeedsM f fd) (T : Bi mg) (ULtie : Use P w K mg base "_law_tie" ["_law_company_here", "_law_one", "_law_other"] spTie 1) (ULalike : Use P w K mg base "_law_alike" ["_law_company_here", "_law_one", "_law_other"] spAlike2 2) (ULcouples : Use P w K mg base "_law_couples" ["_law_many"] spCouples 1) : FnOk P w K mg base CX0 3 f fd ["_law_kinds", "_law_company_here"] spDeedsM := by
  refine F.ok scDeedsM (fun vs H Q E h => ?_) (fun cdv A outer s H vs Q E hr h => ?_)
  · obtain ⟨k, c, rs, kss, rfl, _⟩ := h
    rfl
  · obtain ⟨k, c, rs, kss, rfl, k2, k9, t, fine, n40, q⟩ := h
    refine ⟨_, (pss_cons (ps_set (i := 2) scDeedsM.nd rfl (Or.inl rfl) (pe_lst pa_nil))
      (pss_cons (ps_for PassesOwn.never rfl (pi_list (pe_use ULcouples (hr.mono (by decide)) (by rfl) (pa_cons (pe_callB call_len_seq (by rfl) T.len PySem.boot_len (pa_cons (pv 1) pa_nil)) pa_nil))) (pg_tup rfl (pgs_cons (pg_name (i := 3) scDeedsM.nd rfl (Or.inr rfl)) (pgs_cons (pg_name (i := 4) scDeedsM.nd rfl (Or.inr rfl)) pgs_nil)))
        (pss_one (ps_if (pt_val (pe_use ULalike hr (by rfl) (pa_cons (pv 1) (pa_cons (pv 3) (pa_cons (pv 4) pa_nil)))))
          (pss_one (ps_set (i := 2) scDeedsM.nd rfl (Or.inl rfl) (pe_op op_cat (pv 2) (pe_lc (own := [("_law_kind", 5)]) (g := (gName 5)) (tt := (tTest (tOp rNe (tVar 5) (tCall spTie [] E0 (tCons (tVar 1) (tCons (tVar 3) (tCons (tVar 4) tNil))))))) (te := (tTup (tCons (tVar 3) (tCons (tVar 4) (tCons (tVar 5) tNil))))) rfl scDeedsM.nd (pi_range1 (by rfl) T.range (pa_cons (pv 0) pa_nil))
            (blkOk_by (N := nDeedsM) (sc := (defScope sDeedsM)) (by decide +kernel)) (fun _ _ _ _ _ => (pg_name (i := 5) scDeedsM.nd rfl (Or.inl rfl))) (fun _ _ _ _ _ => by exact (pts_one (pt_cmpR op_ne (pv 5) (pe_use ULtie (hr.mono (by decide)) (by rfl) (pa_cons (pv 1) (pa_cons (pv 3) (pa_cons (pv 4) pa_nil)))) (nomark _))))
            (fun _ _ _ _ _ => by exact (pe_tup (pa_cons (pv 3) (pa_cons (pv 4) (pa_cons (pv 5) pa_nil))))))))) pss_nil)))
      (pss_one (ps_ret (pv 2))))), ?_⟩
    obtain ⟨n, hn⟩ : ∃ n, kss.length = n := ⟨_, rfl⟩
    have lr : (rs.map V.ref).length = n := by rw [List.length_map, t.len, hn]
    refine ⟨Nat.zero_le _, fun f0 hf0 => ?_⟩
    obtain ⟨H1, e1, s1, f1⟩ := gen H hf0 (.lst [])
    rw [e1]
    clear e1
    refine ⟨_, rfl, c, _, rfl, .inl (SqL.of (s1 _ _ t.top)), n, by rw [lr]; rfl, by omega, fun L ts H2 s2 nL R ec => ?_⟩
    have s02 := s1.trans s2
    have fl : ∀ l : List (Nat × Nat), (l.flatMap fun c => kindsOf kss c k.toNat).length ≤ l.length * 9 := fun l => by
      induction l with
      | nil => simp
      | cons a l ih =>
        rw [List.flatMap_cons, List.length_append, List.length_cons, Nat.succ_mul]
        have := kinds_len kss a k.toNat
        omega
    have lts : ts.length ≤ 1600 := by
      have h1 := congrArg List.length ec
      rw [List.length_map] at h1
      rw [h1]
      exact Nat.le_trans (cpl_len n n) (Nat.mul_le_mul (by omega : n ≤ 40) (by omega : n ≤ 40))
    refine ⟨L, rfl, ⟨_, SqL.of R.top⟩, ?_⟩
    refine for_list (K := K) (a := L) (xs := ts.map fun t => V.ref t.1) (fun i σ H' => ∃ (f : Addr) (x y : Option V), σ = [some (.int k), some (.ref c), some (.ref f), x, y, none] ∧ Same H H' ∧ Same H2 H' ∧ H f = none ∧ ∃ us, Deeds H H' f us ∧ us.map (·.2) = (((cplTo n n).take i).filter fun c => alikeB kss c.1 c.2).flatMap fun c => kindsOf kss c k.toNat)
      ⟨f0, _, _, rfl, s02, Same.refl _, hf0, [], ⟨s2 _ _ f1, by simp, by simp⟩, rfl⟩ (fun i σ H' _ z => by
        obtain ⟨_, _, _, _, _, s', _⟩ := z
        exact SqL.of (s' _ _ R.top)) ?_ ?_
    · rintro i y σ H3 hi ⟨f, x0, y0, rfl, s3, s23, nf, us, U, eu⟩
      rw [List.getElem?_map] at hi
      cases et : ts[i]? with
      | none =>
        rw [et] at hi
        cases hi
      | some v =>
        rw [et] at hi
        cases hi
        obtain ⟨ad, a, b⟩ := v
        have vm := List.mem_of_getElem? et
        have ea : (cplTo n n)[i]? = some (a, b) := by
          rw [← ec, List.getElem?_map, et]
          rfl
        obtain ⟨w1, w2, w3⟩ := (cpl_mem _ _ a b).mp (List.mem_of_getElem? ea)
        have lu : us.length ≤ 14400 := by
          have h1 := congrArg List.length eu
          rw [List.length_map] at h1
          have h2 := fl (((cplTo n n).take i).filter fun c => alikeB kss c.1 c.2)
          have h3 := List.length_filter_le (fun c : Nat × Nat => alikeB kss c.1 c.2) ((cplTo n n).take i)
          rw [List.length_take] at h3
          have h4 : (cplTo n n).length ≤ 1600 := Nat.le_trans (cpl_len n n) (Nat.mul_le_mul (by omega : n ≤ 40) (by omega : n ≤ 40))
          omega
        have tk := cpl_take (f := fun c : Nat × Nat => alikeB kss c.1 c.2) ea
        refine ⟨ad, _, rfl, SqT.of (s23 _ _ (R.row _ vm)), rfl, _, _, rfl, _, _, rfl, rfl, ?_⟩
        have t3 := t.same s3
        refine ⟨_, rfl, _, rfl, _, rfl, c, rs, kss, k, a, b, rfl, t3, fine, by omega, by omega, by omega, _, rfl, ?_⟩
        cases al : alikeB kss a b with
        | false =>
          refine iteF ⟨f, _, _, rfl, s3, s23, nf, us, U, ?_⟩
          rw [tk, al, if_neg (by decide), List.append_nil]
          exact eu
        | true =>
          refine iteT ⟨_, rfl, ?_⟩
          refine ⟨_, rfl, k, rfl, by omega, by omega, fun D hD => ?_⟩
          refine lc_it (walk_nat (n := k.toNat)) (fun j H' => Same H3 H' ∧ ∃ ds, Deeds H H' D ds ∧ ds.map (·.2) = kindsOf kss (a, b) j)
            ⟨same_new hD, [], ⟨upd_same, by simp, by simp⟩, rfl⟩ (fun _ _ _ _ => trivial) ?_ ?_
          · rintro j y H6 H7 hj ⟨s6, ds6, U6, e6⟩ ⟨rfl, rfl⟩
            have t6 := t3.same s6
            refine ⟨rfl, ?_⟩
            refine ⟨_, rfl, _, rfl, _, rfl, _, rfl, c, rs, kss, k, a, b, rfl, t6, fine, by omega, by omega, by omega, rfl, _, rfl, ?_⟩
            have fd : decide (V.int ((j : Nat) : Int) = V.int (tieN kss a b)) = decide (((j : Nat) : Int) = tieN kss b a) := by
              rw [tieN_comm kss a b]
              exact decide_eq_decide.mpr ⟨fun z => by injection z, fun z => by rw [z]⟩
            rw [fd]
            have km := kinds_more kss (a, b) j
            cases e0 : decide (((j : Nat) : Int) = tieN kss b a) with
            | true =>
              refine iteF ⟨s6, ds6, U6, ?_⟩
              rw [km, e0]
              exact e6.trans (by simp)
            | false =>
              refine iteT ⟨_, rfl, _, rfl, _, rfl, (by show 3 ≤ sizeLine; decide), fun p hp => ?_⟩
              obtain ⟨H8, e8, s8, f8⟩ := gen H7 hp (.tup [.int (a : Nat), .int (b : Nat), .int (j : Nat)])
              rw [e8]
              clear e8
              have f8' : H8 p = some (.tup (deedV3 (a, b, ((j : Nat) : Int)))) := f8
              refine ⟨_, s8 _ _ U6.top, ?_, fun x o e' => ?_, ds6 ++ [(p, (a, b, ((j : Nat) : Int)))], U6.push s8 hp (s3.free (s6.free hp)) f8', ?_⟩
              · have h1 := congrArg List.length e6
                rw [List.length_map] at h1
                have h3 := kinds_len kss (a, b) j
                rw [List.length_map, sizeLine_eq]
                omega
              · rw [upd_ne (ne_of_none e' hD)]
                exact s8 _ _ (s6 _ _ e')
              · rw [List.map_append, e6, km, e0]
                rfl
          · rintro H6 ⟨s6, ds6, U6, e6⟩
            have l6 : ds6.length ≤ 9 := by
              have h1 := congrArg List.length e6
              rw [List.length_map] at h1
              have := kinds_len kss (a, b) k.toNat
              omega
            refine ⟨f, D, _, _, rfl, rfl, s6 _ _ U.top, U6.top, ?_, fun p hp => ?_⟩
            · rw [List.length_map, List.length_map, sizeLine_eq]
              omega
            · obtain ⟨H8, e8, s8, f8⟩ := gen H6 hp (.lst ((us.map fun t => V.ref t.1) ++ (ds6.map fun t => V.ref t.1)))
              rw [e8]
              clear e8
              have s38 := s6.trans s8
              refine ⟨p, _, _, rfl, s3.trans s38, s23.trans s38, s3.free (s6.free hp), us ++ ds6, ⟨?_, ?_, ?_⟩, ?_⟩
              · rw [f8, List.map_append]
              · intro u hu
                rcases List.mem_append.mp hu with hu | hu
                · exact s38 _ _ (U.row u hu)
                · exact s8 _ _ (U6.row u hu)
              · intro u hu
                rcases List.mem_append.mp hu with hu | hu
                · exact U.new u hu
                · exact U6.new u hu
              · rw [List.map_append, eu, e6, tk, al, List.flatMap_append]
                simp
    · rintro σ H3 ⟨f, x0, y0, rfl, s3, s23, nf, us, U, eu⟩
      have l1 : (ts.map fun t => V.ref t.1).length = (cplTo n n).length := by rw [List.length_map, ← ec, List.length_map]
      rw [l1, List.take_length] at eu
      refine ⟨_, rfl, q f us H3 s3 nf U ?_⟩
      rw [eu]
      unfold deedsL
      rw [hn]
end
end K03

namespace K03
open PySem PySem.Spec PyProof.Rows
open L2
open GL
def whole3 : PyData → Bool
  | .tuple [x, y, z] => whole x && (whole y && whole z)
  | _ => false
theorem whole_int {d : PyData} (h : whole d = true) : ∃ i, d = .int i := by
  rcases whole_cases d with ⟨i, e, _⟩ | ⟨e, _⟩
  · exact ⟨i, e⟩
  · rw [e] at h
    cases h
section
variable {P : Program} {w : World} {K : PySem.W.Frag} {mg : Str → Option Value} {base : Heap}
abbrev sIsDeedL : Stmt := topS 59
abbrev nIsDeedL : List Str := ["_law_kinds", "_law_company_here", "_law_value", "_law_item", "_law_one", "_law_other", "_law_kind"]
theorem scIsDeedL : FnScope nIsDeedL ["_law_kinds", "_law_company_here", "_law_value"] (defScope sIsDeedL) := ⟨rfl, rfl, rfl, by decide +kernel, rfl, by decide +kernel, by decide +kernel⟩
theorem ok_isDeedL {f : Addr} {fd : FuncData} (F : Fun K "_law_is_deed" "_law_is_deed" sIsDeedL f fd) (T : Bi mg) (ULiswhole : Use P w K mg base "_law_is_whole" ["_law_value"] (spWhole K) 1) (ULtie : Use P w K mg base "_law_tie" ["_law_company_here", "_law_one", "_law_other"] spTie 1) (ULalike : Use P w K mg base "_law_alike" ["_law_company_here", "_law_one", "_law_other"] spAlike2 2) : FnOk P w K mg base CX0 3 f fd ["_law_kinds", "_law_company_here", "_law_value"] (spIsDeedL K) := by
  refine F.ok scIsDeedL (fun vs H Q E h => ?_) (fun cdv A outer s H vs Q E hr h => ?_)
  · obtain ⟨k, c, x, d, rs, kss, rfl, _⟩ := h
    rfl
  · obtain ⟨k, c, x, d, rs, kss, rfl, t, fine, n40, hd, q⟩ := h
    refine ⟨_, (pss_cons (ps_if (PW.pt (pw_or (pt_not (pt_val (pe_callB call_isi (by rfl) T.isinstance (by decide +kernel) (pa_cons (pv 2) (pa_cons (pe_bltn (v := .ty "tuple") (by rfl) T.tuple (by decide +kernel) rfl) pa_nil))))) (pw_or (pt_cmpR op_ne (pe_callB call_len_seq (by rfl) T.len PySem.boot_len (pa_cons (pv 2) pa_nil)) pe_int (nomark _)) (pw_or1 (pt_cmpR (op_neNil hr.units) (pe_lc (own := [("_law_item", 3)]) (g := (gName 3)) (tt := (tNot (tB (tCall (spWhole K) [] E0 (tCons (tVar 3) tNil))))) (te := (tVar 3)) rfl scIsDeedL.nd (pi_tup (pv 2))
            (blkOk_by (N := nIsDeedL) (sc := (defScope sIsDeedL)) (by decide +kernel)) (fun _ _ _ _ _ => (pg_name (i := 3) scIsDeedL.nd rfl (Or.inl rfl))) (fun _ _ _ _ _ => by exact (pts_one (pt_not (pt_val (pe_use ULiswhole (hr.mono (by decide)) (by rfl) (pa_cons (pv 3) pa_nil))))))
            (fun _ _ _ _ _ => by exact (pv 3))) (pe_lst pa_nil) (nomark _))))))
        (pss_one (ps_ret pe_bl)) pss_nil)
      (pss_cons (ps_asg (pv 2)
          (pg_tup rfl (pgs_cons (pg_name (i := 4) scIsDeedL.nd rfl (Or.inl rfl)) (pgs_cons (pg_name (i := 5) scIsDeedL.nd rfl (Or.inl rfl)) (pgs_cons (pg_name (i := 6) scIsDeedL.nd rfl (Or.inl rfl)) pgs_nil)))))
      (pss_cons (ps_if (PW.pt (pw_or (pt_not (pt_chain3 op_le op_lt op_lt pe_int (pv 4) (pv 5) (pe_callB call_len_seq (by rfl) T.len PySem.boot_len (pa_cons (pv 1) pa_nil)))) (pw_or1 (pt_not (pt_chain op_le op_lt pe_int (pv 6) (pv 0))))))
        (pss_one (ps_ret pe_bl)) pss_nil)
      (pss_one (ps_ret (pe_and (pe_use ULalike hr (by rfl) (pa_cons (pv 1) (pa_cons (pv 4) (pa_cons (pv 5) pa_nil)))) (pe_one (pe_cmpR op_ne (pe_use ULtie (hr.mono (by decide)) (by rfl) (pa_cons (pv 1) (pa_cons (pv 4) (pa_cons (pv 5) pa_nil)))) (pv 6) (nomark _))))))))), ?_⟩
    obtain ⟨n, hn⟩ : ∃ n, kss.length = n := ⟨_, rfl⟩
    have lr : (rs.map V.ref).length = n := by rw [List.length_map, t.len, hn]
    refine if_by (R := fun b H' => Same H H' ∧ b = !whole3 d) (fun Q' hq => ?_) (fun H' z => ?_) (fun H' z => ?_)
    · refine ⟨_, rfl, _, _, _, _, _, rfl, .ty "tuple", hd.ty, kit_tuple d, _, rfl, ?_⟩
      by_cases e : ∃ ds, d = .tuple ds
      · obtain ⟨ds, rfl⟩ := e
        cases hd with
        | tup ht hx =>
          rename_i tt xs
          have lx := hx.length
          refine iteF ⟨_, rfl, tt, _, rfl, .inr (SqT.of ht), rfl, _, rfl, ?_⟩
          by_cases l3 : ds.length = 3
          · match ds, l3, xs, hx with
            | [y, z, u], _, [vy, vz, vu], hx =>
              refine iteF ⟨_, rfl, tt, rfl, ⟨_, SqT.of ht⟩, fun D hD => ?_⟩
              refine lc_keep (walk_tup (K := K) (a := tt) (xs := [vy, vz, vu])) (fun i => !whole ([y, z, u].getD i .none)) (fun i => [vy, vz, vu].getD i .non) hD (by show 3 ≤ sizeLine; decide) (fun H' s' => SqT.of (s' _ _ ht)) ?_ ?_
              · rintro j v H4 H5 N M' hj s4 ⟨rfl, ev⟩ hN hM
                obtain ⟨dj, ej, dd⟩ := hx.get ev
                have g1 : [y, z, u].getD j .none = dj := by rw [List.getD_eq_getElem?_getD, ej]; rfl
                have g2 : [vy, vz, vu].getD j .non = v := by rw [List.getD_eq_getElem?_getD, ev]; rfl
                refine ⟨rfl, _, rfl, v, dj, rfl, dd.same s4, _, rfl, ?_⟩
                cases hw : whole dj with
                | true => exact iteF (hM _ (by rw [g1, hw]; rfl) (Same.refl _))
                | false =>
                  refine iteT ⟨_, rfl, ?_⟩
                  have := hN _ (by rw [g1, hw]; rfl) (Same.refl _)
                  rw [g2] at this
                  exact this
              · intro H4 s4 h4
                refine ⟨Nat.zero_le _, fun e0 he0 => ?_⟩
                obtain ⟨H5, e5, s5, f5⟩ := gen H4 he0 (.lst [])
                rw [e5]
                clear e5
                refine ⟨D, e0, _, rfl, rfl, SqL.of (s5 _ _ h4), SqL.of f5, _, rfl, hq _ _ ⟨s4.trans s5, ?_⟩⟩
                show (!((((List.range 3).filter fun i => !whole ([y, z, u].getD i .none)).map fun i => [vy, vz, vu].getD i .non).isEmpty)) = !(whole y && (whole z && whole u))
                have r3 : List.range 3 = [0, 1, 2] := rfl
                rw [r3]
                show (!((([0, 1, 2].filter fun i => !whole ([y, z, u].getD i .none)).map fun i => [vy, vz, vu].getD i .non).isEmpty)) = _
                have w0 : whole ([y, z, u].getD 0 .none) = whole y := rfl
                have w1 : whole ([y, z, u].getD 1 .none) = whole z := rfl
                have w2 : whole ([y, z, u].getD 2 .none) = whole u := rfl
                rw [List.filter_cons, List.filter_cons, List.filter_cons, w0, w1, w2]
                cases whole y <;> cases whole z <;> cases whole u <;> rfl
          · have ne : ¬ ((xs.length : Nat) : Int) = 3 := by omega
            have ez : decide (V.int ((xs.length : Nat) : Int) = V.int 3) = false := decide_eq_false fun z => ne (by injection z)
            rw [ez]
            refine iteT (hq _ _ ⟨Same.refl _, ?_⟩)
            match ds, l3 with
            | [], _ => rfl
            | [a], _ => rfl
            | [a, b], _ => rfl
            | a :: b :: c :: e :: l, _ => rfl
      · have z : isTup d = false ∧ whole3 d = false := by
          cases d with
          | tuple ds => exact (e ⟨ds, rfl⟩).elim
          | _ => exact ⟨rfl, rfl⟩
        rw [z.1]
        exact iteT (hq _ _ ⟨Same.refl _, by rw [z.2]; rfl⟩)
    · obtain ⟨s1, e⟩ := z
      have h0 : whole3 d = false := by
        cases h : whole3 d with
        | false => rfl
        | true => rw [h] at e; cases e
      have hB : deedB k kss d = false := by
        cases h : deedB k kss d with
        | false => rfl
        | true =>
          obtain ⟨a, b, v, rfl, _⟩ := deed_nat h
          cases h0
      have := q H' s1
      rw [hB] at this
      exact this
    · obtain ⟨s1, e⟩ := z
      have h0 : whole3 d = true := by
        cases h : whole3 d with
        | true => rfl
        | false => rw [h] at e; cases e
      obtain ⟨i, j, v, rfl⟩ : ∃ i j v : Int, d = .tuple [.int i, .int j, .int v] := by
        match d, h0 with
        | .tuple [x, y, z], h0 =>
          have h0 : (whole x && (whole y && whole z)) = true := h0
          rw [Bool.and_eq_true, Bool.and_eq_true] at h0
          obtain ⟨i, rfl⟩ := whole_int h0.1
          obtain ⟨j, rfl⟩ := whole_int h0.2.1
          obtain ⟨v, rfl⟩ := whole_int h0.2.2
          exact ⟨i, j, v, rfl⟩
      have t1 := t.same s1
      have hd1 := hd.same s1
      cases hd1 with
      | tup ht hx =>
        rename_i tt xs
        cases hx with
        | cons hxa hx =>
          cases hxa
          cases hx with
          | cons hxb hx =>
            cases hxb
            cases hx with
            | cons hxz hx =>
              cases hxz
              cases hx
              refine ⟨_, rfl, tt, _, rfl, SqT.of ht, rfl, _, _, rfl, _, _, rfl, _, _, rfl, rfl, ?_⟩
              have eB : deedB k kss (.tuple [.int i, .int j, .int v]) = (((decide (0 ≤ j) && decide (j < kss.length)) && (decide (0 ≤ i) && decide (i < j))) && ((decide (0 ≤ v) && decide (v < k)) && (!decide (v = tieN kss i.toNat j.toNat) && alikeB kss i.toNat j.toNat))) := rfl
              rw [eB] at q
              by_cases c1 : 0 ≤ i ∧ i < j ∧ j < kss.length
              · obtain ⟨c1, c2, c3⟩ := c1
                have x1 : ((decide (0 ≤ j) && decide (j < kss.length)) && (decide (0 ≤ i) && decide (i < j))) = true := by
                  rw [decide_eq_true (by omega : 0 ≤ j), decide_eq_true c3, decide_eq_true c1, decide_eq_true c2]
                  rfl
                rw [x1] at q
                refine ⟨_, rfl, _, _, rfl, rfl, _, rfl, ite2 (fun _ => ?_) (fun z => (z (decide_eq_true c1)).elim)⟩
                refine ⟨_, rfl, _, _, rfl, rfl, _, rfl, ite2 (fun _ => ?_) (fun z => (z (decide_eq_true c2)).elim)⟩
                refine ⟨_, rfl, c, _, rfl, .inl (SqL.of t1.top), _, _, rfl, rfl, _, rfl, ?_⟩
                rw [decide_eq_true (by rw [lr]; omega : j < ((rs.map V.ref).length : Int))]
                refine iteF ⟨_, rfl, _, _, rfl, rfl, _, rfl, ?_⟩
                by_cases c4 : 0 ≤ v ∧ v < k
                · obtain ⟨c4, c5⟩ := c4
                  have x2 : (decide (0 ≤ v) && decide (v < k)) = true := by
                    rw [decide_eq_true c4, decide_eq_true c5]
                    rfl
                  rw [x2] at q
                  refine ite2 (fun _ => ?_) (fun z => (z (decide_eq_true c4)).elim)
                  refine ⟨_, rfl, _, _, rfl, rfl, _, rfl, ?_⟩
                  rw [decide_eq_true c5]
                  refine iteF ?_
                  obtain ⟨a, rfl⟩ : ∃ a : Nat, i = (a : Int) := ⟨i.toNat, by omega⟩
                  obtain ⟨b, rfl⟩ : ∃ b : Nat, j = (b : Int) := ⟨j.toNat, by omega⟩
                  refine ⟨_, rfl, _, rfl, _, rfl, c, rs, kss, k, a, b, rfl, t1, fine, by omega, by omega, by omega, _, rfl, ?_⟩
                  have q1 := q H' s1
                  rw [Int.toNat_natCast, Int.toNat_natCast] at q1
                  cases al : alikeB kss a b with
                  | false =>
                    refine iteF ?_
                    rw [al, Bool.and_false] at q1
                    exact q1
                  | true =>
                    refine iteT ⟨_, rfl, _, rfl, _, rfl, c, rs, kss, k, a, b, rfl, t1, fine, by omega, by omega, by omega, _, rfl, rfl, ?_⟩
                    rw [al, Bool.and_true] at q1
                    have fd : decide (V.int (tieN kss a b) = V.int v) = decide (v = tieN kss a b) := decide_eq_decide.mpr ⟨fun z => by injection z with z; exact z.symm, fun z => by rw [z]⟩
                    rw [fd]
                    exact q1
                · have x2 : (decide (0 ≤ v) && decide (v < k)) = false := by
                    cases h : (decide (0 ≤ v) && decide (v < k)) with
                    | false => rfl
                    | true =>
                      rw [Bool.and_eq_true] at h
                      exact (c4 ⟨of_decide_eq_true h.1, of_decide_eq_true h.2⟩).elim
                  have q1 := q H' s1
                  rw [x2] at q1
                  refine ite2 (fun z => ?_) (fun _ => ⟨_, rfl, iteT q1⟩)
                  refine ⟨_, rfl, _, _, rfl, rfl, _, rfl, ?_⟩
                  rw [decide_eq_false (fun z2 => c4 ⟨of_decide_eq_true z, z2⟩)]
                  exact iteT q1
              · have x1 : ((decide (0 ≤ j) && decide (j < kss.length)) && (decide (0 ≤ i) && decide (i < j))) = false := by
                  cases h : ((decide (0 ≤ j) && decide (j < kss.length)) && (decide (0 ≤ i) && decide (i < j))) with
                  | false => rfl
                  | true =>
                    simp only [Bool.and_eq_true, decide_eq_true_eq] at h
                    exact (c1 ⟨h.2.1, h.2.2, h.1.2⟩).elim
                have q1 := q H' s1
                rw [x1] at q1
                refine ⟨_, rfl, _, _, rfl, rfl, _, rfl, ite2 (fun z1 => ?_) (fun _ => ⟨_, rfl, iteT (iteT q1)⟩)⟩
                refine ⟨_, rfl, _, _, rfl, rfl, _, rfl, ite2 (fun z2 => ?_) (fun _ => ⟨_, rfl, iteT (iteT q1)⟩)⟩
                refine ⟨_, rfl, c, _, rfl, .inl (SqL.of t1.top), _, _, rfl, rfl, _, rfl, ?_⟩
                rw [decide_eq_false (fun z3 => c1 ⟨of_decide_eq_true z1, of_decide_eq_true z2, by rw [lr] at z3; omega⟩)]
                exact iteT (iteT q1)
abbrev sRoadL : Stmt := topS 58
abbrev nRoadL : List Str := ["_law_generator_here", "_law_kinds", "_law_company_here", "_law_most", "_law_road_here", "_law_there", "_law_turn", "_law_menu"]
theorem scRoadL : FnScope nRoadL ["_law_generator_here", "_law_kinds", "_law_company_here", "_law_most"] (defScope sRoadL) := ⟨rfl, rfl, rfl, by decide +kernel, rfl, by decide +kernel, by decide +kernel⟩
theorem ok_roadL {f : Addr} {fd : FuncData} (F : Fun K "_law_road" "_law_road" sRoadL f fd) (T : Bi mg) (ULrandom : Use P w K mg base "_law_random" ["_law_generator_here", "_law_bound"] spRandom 2) (ULretied : Use P w K mg base "_law_retied" ["_law_company_here", "_law_deed"] spRetied 1) (ULdeeds : Use P w K mg base "_law_deeds" ["_law_kinds", "_law_company_here"] spDeedsM 3) : FnOk P w K mg base CX0 4 f fd ["_law_generator_here", "_law_kinds", "_law_company_here", "_law_most"] spRoadL := by
  refine F.ok scRoadL (fun vs H Q E h => ?_) (fun cdv A outer s H vs Q E hr h => ?_)
  · obtain ⟨g, k, c, m, n, rs, kss, rfl, _⟩ := h
    rfl
  · obtain ⟨g, k, c, m, n, rs, kss, rfl, k2, k9, m20, G, tb, fine, n40, cg, gr, q⟩ := h
    refine ⟨_, (pss_cons (ps_par (i := 4) (j := 5) rfl scRoadL.nd rfl rfl (by decide) rfl rfl (pa_cons (pe_lst pa_nil) (pa_cons (pv 2) pa_nil)) (by rfl))
      (pss_cons (ps_for PassesOwn.never rfl (pi_range1 (by rfl) T.range (pa_cons (pv 3) pa_nil)) (pg_name (i := 6) scRoadL.nd rfl (Or.inl rfl))
        (pss_cons (ps_set (i := 7) scRoadL.nd rfl (Or.inl rfl) (pe_use ULdeeds hr (by rfl) (pa_cons (pv 1) (pa_cons (pv 5) pa_nil))))
        (pss_one (ps_if (pt_cmpR (op_neNil hr.units) (pv 7) (pe_lst pa_nil) (nomark _))
          (pss_cons (ps_expr (pe_bm PySem.F.plainAttrs_list PySem.F.slot_list_append PySem.F.type_list_append mt_append (pv 4) (pa_cons (pe_ix ix_list (pv 7) (pe_use ULrandom (hr.mono (by decide)) (by rfl) (pa_cons (pv 0) (pa_cons (pe_callB call_len_seq (by rfl) T.len PySem.boot_len (pa_cons (pv 7) pa_nil)) pa_nil))) (fun _ _ => rfl)) pa_nil)))
          (pss_one (ps_set (i := 5) scRoadL.nd rfl (Or.inl rfl) (pe_use ULretied (hr.mono (by decide)) (by rfl) (pa_cons (pv 5) (pa_cons (pe_ix ix_list (pv 4) (pe_op op_sub (pe_callB call_len_seq (by rfl) T.len PySem.boot_len (pa_cons (pv 4) pa_nil)) pe_int) (fun _ _ => rfl)) pa_nil)))))) pss_nil))))
      (pss_one (ps_ret (pe_tup (pa_cons (pv 4) (pa_cons (pv 5) pa_nil))))))), ?_⟩
    refine ⟨Nat.zero_le _, fun R hR => ?_⟩
    obtain ⟨H1, e1, s1, f1⟩ := gen H hR (.lst [])
    rw [e1]
    clear e1
    refine ⟨_, rfl, _, _, rfl, ?_⟩
    have Rg : R ≠ g := (G.ne hR).symm
    refine ⟨_, rfl, m, rfl, by omega, by omega, ?_⟩
    refine for_range (lo := 0) (n := (m : Int).toNat) (fun i σ H' => ∃ (p : Addr) (tv mv : Option V) (ps : List Addr) (ks : List (List Int)) (ts : List DeedT), σ = [some (.ref g), some (.int k), some (.ref c), some (.int m), some (.ref R), some (.ref p), tv, mv] ∧ But g H H' ∧ Gen H' g (n + 5 * (m - i)) ∧ Deeds H H' R ts ∧ ts.length ≤ i ∧ Tab (hid H' R) p ps ks ∧ p ≠ g ∧ g ∉ ps ∧ followK k kss (ts.map fun t => deedP t.2) 0 = (ks, ts.length) ∧ Fine k ks ∧ ks.length = kss.length)
      ⟨c, _, _, rs, kss, [], rfl, .of s1, G.same s1, ⟨f1, by simp, by simp⟩, Nat.le_refl _, ⟨hid_in (s1 _ _ tb.top) (ne_of_none tb.top hR), tb.len, fun i r ks a b => hid_in (s1 _ _ (tb.row i r ks a b)) (ne_of_none (tb.row i r ks a b) hR), tb.nd⟩, cg, gr, rfl, fine, rfl⟩ ?_ ?_
    · rintro i σ H2 hi ⟨p, tv, mv, ps, ks, ts, rfl, b2, G2, D2, lt, t2, pg, gp, fo, f2, l2⟩
      have im : i < m := by omega
      rw [show n + 5 * (m - i) = n + 5 * (m - (i + 1)) + 5 by omega] at G2
      refine ⟨_, rfl, _, rfl, k, p, ps, ks, rfl, k2, k9, t2.same hid_same, f2, by omega, fun L us H3 s3 nL U eu => ?_⟩
      refine ⟨_, rfl, Nat.zero_le _, fun z hz => ?_⟩
      obtain ⟨H4, e4, s4, f4⟩ := gen H3 hz (.lst [])
      rw [e4]
      clear e4
      have s24 := s3.trans s4
      have U4 := U.same s4
      have G4 := G2.same s24
      refine ⟨L, z, _, rfl, rfl, SqL.of U4.top, SqL.of f4, _, rfl, ?_⟩
      cases us with
      | nil => exact iteF ⟨p, _, _, ps, ks, ts, rfl, b2.trans (.of s24), G4.less (by omega), D2.same s24, by omega, t2.same (hid_mono s24), pg, gp, fo, f2, l2⟩
      | cons u0 ur =>
        have D4 := D2.same s24
        have lus : (u0 :: ur).length ≤ 1000000 := by
          have h1 := congrArg List.length eu
          rw [List.length_map] at h1
          rw [h1]
          have fl : ∀ l : List (Nat × Nat), (l.flatMap fun c => kindsOf ks c k.toNat).length ≤ l.length * 9 := fun l => by
            induction l with
            | nil => simp
            | cons a l ih =>
              rw [List.flatMap_cons, List.length_append, List.length_cons, Nat.succ_mul]
              have := kinds_len ks a k.toNat
              omega
          have h2 := fl ((cplTo ks.length ks.length).filter fun c => alikeB ks c.1 c.2)
          have h3 := List.length_filter_le (fun c : Nat × Nat => alikeB ks c.1 c.2) (cplTo ks.length ks.length)
          have h4 : (cplTo ks.length ks.length).length ≤ 1600 := Nat.le_trans (cpl_len _ _) (Nat.mul_le_mul (by omega : ks.length ≤ 40) (by omega : ks.length ≤ 40))
          unfold deedsL
          omega
        refine iteT ⟨_, rfl, .inl ⟨rfl, _, SqL.of D4.top⟩, _, rfl, _, rfl, _, rfl, L, _, rfl, .inl (SqL.of U4.top), g, _, n + 5 * (m - (i + 1)), rfl, ?_, ?_, G4, fun r H5 r0 r1 G5 b5 => ?_⟩
        · rw [List.length_map, List.length_cons]
          omega
        · rw [List.length_map]
          omega
        rw [List.length_map] at r1
        have rl : r.toNat < (u0 :: ur).length := by omega
        obtain ⟨um, ue⟩ : ∃ u, (u0 :: ur)[r.toNat]? = some u := ⟨_, List.getElem?_eq_getElem rl⟩
        have umm := List.mem_of_getElem? ue
        have Lg : L ≠ g := (G2.ne nL).symm
        have ug : um.1 ≠ g := (G2.ne (U.new um umm)).symm
        have uR : um.1 ≠ R := fun z => by
          have := U.new um umm
          rw [z, D2.top] at this
          cases this
        have hL5 := b5 _ _ U4.top Lg
        have hR5 := b5 _ _ D4.top Rg
        have hu5 := b5 _ _ (U4.row um umm) ug
        refine ⟨L, _, _, V.ref um.1, rfl, rfl, SqL.of hL5, at_of (j := r.toNat) (by omega) (by rw [List.getElem?_map, ue]; rfl), ?_⟩
        refine ⟨R, _, _, rfl, rfl, hR5, by rw [List.length_map]; exact small1000 (by omega), ?_⟩
        -- the road is longer by one
        have cm : um.2 ∈ deedsL k ks := by
          rw [← eu]
          exact List.mem_map_of_mem umm
        obtain ⟨w1, w2, w3, w4, _, _⟩ := deeds_mem (by omega) cm
        have okd := deed_ok (k := k) (by omega) cm
        have newH : H um.1 = none := but_free b2 G2 (U.new um umm)
        have D6 : Deeds H (upd H5 R (.lst ((ts.map fun t => V.ref t.1) ++ [V.ref um.1]))) R (ts ++ [um]) := by
          refine ⟨by rw [upd_same, List.map_append]; rfl, fun t ht => ?_, fun t ht => ?_⟩
          · rcases List.mem_append.mp ht with ht | ht
            · have h0 := D4.row t ht
              have tg : t.1 ≠ g := fun z => by
                have := D2.new t ht
                obtain ⟨_, _, _, hg, _⟩ := G
                rw [z, hg] at this
                cases this
              rw [upd_ne (ne_of h0 D4.top (by intro z; cases z))]
              exact b5 _ _ h0 tg
            · rw [List.mem_singleton] at ht
              subst ht
              rw [upd_ne uR]
              exact hu5
          · rcases List.mem_append.mp ht with ht | ht
            · exact D2.new t ht
            · rw [List.mem_singleton] at ht
              subst ht
              exact newH
        have tk5 : Tab (hid H5 R) p ps ks := by
          have := t2.same (hid_mono s24)
          exact this.but (fun b o e nb => by
            have n1 := hid_none e
            rw [hid_ne n1] at e ⊢
            exact b5 _ _ e nb) pg gp
        have hu6 : (upd H5 R (.lst ((ts.map fun t => V.ref t.1) ++ [V.ref um.1]))) um.1 = some (.tup (deedV3 um.2)) := by
          rw [upd_ne uR]
          exact hu5
        have b6 : But g H2 (upd H5 R (.lst ((ts.map fun t => V.ref t.1) ++ [V.ref um.1]))) → True := fun _ => trivial
        have b06 : But g H (upd H5 R (.lst ((ts.map fun t => V.ref t.1) ++ [V.ref um.1]))) := fun b o e nb => by
          rw [upd_ne (ne_of_none e hR)]
          exact b5 _ _ (s24 _ _ (b2 _ _ e nb)) nb
        have G6 := G5.other (o := .lst ((ts.map fun t => V.ref t.1) ++ [V.ref um.1])) Rg
        have tk6 : Tab (hid (upd H5 R (.lst ((ts.map fun t => V.ref t.1) ++ [V.ref um.1]))) R) p ps ks := by
          rw [hid_upd]
          exact tk5
        have fo6 : followK k kss ((ts ++ [um]).map fun t => deedP t.2) 0 = (doD ks (deedP um.2), (ts ++ [um]).length) := by
          rw [List.map_append, List.length_append]
          have := follow_more (k := k) (kss := kss) (ks := ks) (i := 0) (ds := ts.map fun t => deedP t.2) (d := deedP um.2) (by rw [fo, List.length_map, Nat.zero_add]) okd
          rw [List.length_map, Nat.zero_add] at this
          exact this
        generalize upd H5 R (.lst ((ts.map fun t => V.ref t.1) ++ [V.ref um.1])) = H6 at D6 hu6 b06 G6 tk6
        have lts1 : ((ts ++ [um]).map fun t => V.ref t.1).length = ts.length + 1 := by rw [List.length_map, List.length_append]; rfl
        refine ⟨_, rfl, _, rfl, _, rfl, R, _, rfl, .inl (SqL.of D6.top), _, _, rfl, rfl, R, _, _, V.ref um.1, rfl, rfl, SqL.of D6.top, at_of (j := ts.length) (by rw [lts1]; omega) ?_, ?_⟩
        · rw [List.getElem?_map, List.getElem?_append_right (Nat.le_refl _), Nat.sub_self]
          rfl
        refine ⟨p, um.1, ps, ks, k, um.2.1, um.2.2.1, um.2.2.2, rfl, tk6.same hid_same, f2, by omega, hu6, w1, w2, fun p' ps' H7 s7 u7 np7 nr7 => ?_⟩
        have p7g : p' ≠ g := (G6.ne np7).symm
        have g7 : g ∉ ps' := notin_new G6 nr7
        have D7 := D6.same s7
        have pR : p' ≠ R := fun z => by rw [z, D6.top] at np7; cases np7
        have rR : ∀ r ∈ ps', r ≠ R := fun r hr' z => by
          have := nr7 r hr'
          rw [z, D6.top] at this
          cases this
        refine ⟨p', _, _, ps', _, ts ++ [um], rfl, b06.trans (.of s7), (G6.same s7).less (by omega), D7, by rw [List.length_append]; show ts.length + 1 ≤ _; omega, ?_, p7g, g7, fo6, setT_fine f2 w2 w3 w4, (setT_len ..).trans l2⟩
        exact ⟨hid_in u7.top pR, u7.len, fun i r ks a b => hid_in (u7.row i r ks a b) (rR r (List.mem_of_getElem? a)), u7.nd⟩
    · rintro σ H2 ⟨p, tv, mv, ps, ks, ts, rfl, b2, G2, D2, lt, t2, pg, gp, fo, f2, l2⟩
      refine ⟨_, rfl, _, rfl, (by show 2 ≤ sizeLine; decide), fun T hT => ?_⟩
      obtain ⟨H3, e3, s3, f3⟩ := gen H2 hT (.tup [.ref R, .ref p])
      rw [e3]
      exact q T R p ts ps ks H3 (b2.trans (.of s3)) ((G2.same s3).less (by omega)) f3 (D2.same s3) hR (by omega) ((t2.same hid_same).same s3) pg gp fo
end
end K03

namespace K03
open PySem PySem.Spec PyProof.Rows
open L2
open GL
section
variable {P : Program} {w : World} {K : PySem.W.Frag} {mg : Str → Option Value} {base : Heap}
abbrev sBentL : Stmt := topS 60
abbrev nBentL : List Str := ["_law_generator_here", "_law_kinds", "_law_company_here", "_law_deed", "_law_many", "_law_one", "_law_other", "_law_found", "_law_odd", "_law_kind", "_law_turn"]
theorem scBentL : FnScope nBentL ["_law_generator_here", "_law_kinds", "_law_company_here", "_law_deed"] (defScope sBentL) := ⟨rfl, rfl, rfl, by decide +kernel, rfl, by decide +kernel, by decide +kernel⟩
theorem ok_bentL {f : Addr} {fd : FuncData} (F : Fun K "_law_bent" "_law_bent" sBentL f fd) (T : Bi mg) (ULrandom : Use P w K mg base "_law_random" ["_law_generator_here", "_law_bound"] spRandom 2) : FnOk P w K mg base CX0 3 f fd ["_law_generator_here", "_law_kinds", "_law_company_here", "_law_deed"] (spBentL K) := by
  refine F.ok scBentL (fun vs H Q E h => ?_) (fun cdv A outer s H vs Q E hr h => ?_)
  · obtain ⟨g, k, c, t, n, rs, kss, a, b, v, rfl, _⟩ := h
    rfl
  · obtain ⟨g, k, c, t, n, rs, kss, a, b, v, rfl, k2, k9, G, tb, n1, n40, ht, q⟩ := h
    refine ⟨_, (pss_cons (ps_asg (pe_tup (pa_cons (pe_callB call_len_seq (by rfl) T.len PySem.boot_len (pa_cons (pv 2) pa_nil)) (pa_cons (pe_ix ix_tup (pv 3) pe_int (fun _ _ => rfl)) (pa_cons (pe_ix ix_tup (pv 3) pe_int (fun _ _ => rfl)) pa_nil))))
          (pg_tup rfl (pgs_cons (pg_name (i := 4) scBentL.nd rfl (Or.inr rfl)) (pgs_cons (pg_name (i := 5) scBentL.nd rfl (Or.inr rfl)) (pgs_cons (pg_name (i := 6) scBentL.nd rfl (Or.inr rfl)) pgs_nil)))))
      (pss_cons (ps_set (i := 7) scBentL.nd rfl (Or.inl rfl) (pe_lst (pa_cons pe_non (pa_cons (pe_tup pa_nil) (pa_cons (pe_tup (pa_cons (pv 5) (pa_cons (pv 6) pa_nil))) (pa_cons (pe_callTy call_lstT (by rfl) T.list PyProof.Rows.boot_list (pa_cons (pv 3) pa_nil)) (pa_cons (pe_tup (pa_cons (pv 6) (pa_cons (pv 5) (pa_cons (pe_ix ix_tup (pv 3) pe_int (fun _ _ => rfl)) pa_nil)))) (pa_cons (pe_tup (pa_cons (pv 5) (pa_cons (pv 5) (pa_cons (pe_ix ix_tup (pv 3) pe_int (fun _ _ => rfl)) pa_nil)))) (pa_cons (pe_tup (pa_cons (pv 5) (pa_cons (pv 6) (pa_cons (pv 1) pa_nil)))) (pa_cons pe_dnewK pa_nil))))))))))
      (pss_cons (ps_expr (pe_bm PySem.F.plainAttrs_list PySem.F.slot_list_append PySem.F.type_list_append mt_append (pv 7) (pa_cons (pe_lst (pa_cons (pv 3) pa_nil)) pa_nil)))
      (pss_cons (ps_for PassesOwn.never rfl (pi_list (pe_lst (pa_cons pe_non (pa_cons pe_bl (pa_cons pe_str (pa_cons (pe_op op_sub pe_int pe_int) (pa_cons (pv 4) (pa_cons (pe_lst (pa_cons pe_int pa_nil)) (pa_cons (pe_op op_pow pe_int pe_int) pa_nil))))))))) (pg_name (i := 8) scBentL.nd rfl (Or.inl rfl))
        (pss_one (ps_set (i := 7) scBentL.nd rfl (Or.inl rfl) (pe_op op_cat (pv 7) (pe_lst (pa_cons (pe_tup (pa_cons (pv 8) (pa_cons (pv 6) (pa_cons (pe_ix ix_tup (pv 3) pe_int (fun _ _ => rfl)) pa_nil)))) (pa_cons (pe_tup (pa_cons (pv 5) (pa_cons (pv 8) (pa_cons (pe_ix ix_tup (pv 3) pe_int (fun _ _ => rfl)) pa_nil)))) (pa_cons (pe_tup (pa_cons (pv 5) (pa_cons (pv 6) (pa_cons (pv 8) pa_nil)))) pa_nil))))))))
      (pss_cons (ps_set (i := 7) scBentL.nd rfl (Or.inl rfl) (pe_op op_cat (pe_op op_cat (pv 7) (pe_lc (own := [("_law_kind", 9)]) (g := (gName 9)) (tt := tYes) (te := (tTup (tCons (tVar 5) (tCons (tVar 6) (tCons (tVar 9) tNil))))) rfl scBentL.nd (pi_range1 (by rfl) T.range (pa_cons (pv 1) pa_nil))
            (blkOk_by (N := nBentL) (sc := (defScope sBentL)) (by decide +kernel)) (fun _ _ _ _ _ => (pg_name (i := 9) scBentL.nd rfl (Or.inl rfl))) (fun _ _ _ _ _ => by exact pts_nil)
            (fun _ _ _ _ _ => by exact (pe_tup (pa_cons (pv 5) (pa_cons (pv 6) (pa_cons (pv 9) pa_nil))))))) (pe_lst (pa_cons (pe_op op_catT (pv 3) (pe_tup (pa_cons pe_int pa_nil))) (pa_cons (pe_tup (pa_cons pe_int (pa_cons pe_int (pa_cons pe_int pa_nil)))) (pa_cons (pe_tup (pa_cons (pv 5) (pa_cons (pe_op op_sub (pv 4) pe_int) (pa_cons (pe_ix ix_tup (pv 3) pe_int (fun _ _ => rfl)) pa_nil)))) pa_nil))))))
      (pss_one (ps_ret (pe_op op_cat (pv 7) (pe_lc (own := [("_law_turn", 10)]) (g := (gName 10)) (tt := tYes) (te := (tTup (tCons (tC (.int 0)) (tCons (tOp (rI0 fun i j => .int (i + j)) (tC (.int 1)) (tCall spRandom [] E0 (tCons (tVar 0) (tCons (tVar 4) tNil)))) (tCons (tCall spRandom [] E0 (tCons (tVar 0) (tCons (tVar 1) tNil))) tNil))))) rfl scBentL.nd (pi_range1 (by rfl) T.range (pa_cons pe_int pa_nil))
            (blkOk_by (N := nBentL) (sc := (defScope sBentL)) (by decide +kernel)) (fun _ _ _ _ _ => (pg_name (i := 10) scBentL.nd rfl (Or.inl rfl))) (fun _ _ _ _ _ => by exact pts_nil)
            (fun _ _ _ _ _ => by exact (pe_tup (pa_cons pe_int (pa_cons (pe_op op_add pe_int (pe_use ULrandom hr (by rfl) (pa_cons (pv 0) (pa_cons (pv 4) pa_nil)))) (pa_cons (pe_use ULrandom hr (by rfl) (pa_cons (pv 0) (pa_cons (pv 1) pa_nil))) pa_nil)))))))))))))), ?_⟩
    obtain ⟨m, hm⟩ : ∃ m, kss.length = m := ⟨_, rfl⟩
    have lr : (rs.map V.ref).length = m := by rw [List.length_map, tb.len, hm]
    have tg : t ≠ g := by
      obtain ⟨_, _, _, hg, _⟩ := G
      exact ne_of ht hg (by intro z; cases z)
    have at0 : ∀ {H' : Hp}, Same H H' → SqT K H' t (deedV3 (a, b, v)) := fun s => SqT.of (s _ _ ht)
    refine ⟨_, rfl, c, _, rfl, .inl (SqL.of tb.top), ?_⟩
    refine ⟨_, rfl, t, _, _, _, rfl, rfl, at0 (Same.refl _), at_of (j := 0) rfl rfl, ?_⟩
    refine ⟨_, rfl, t, _, _, _, rfl, rfl, at0 (Same.refl _), at_of (j := 1) rfl rfl, ?_⟩
    refine ⟨(by show 3 ≤ sizeLine; decide), fun T0 hT0 => ?_⟩
    obtain ⟨H1, e1, s1, f1, d1, h1, G1⟩ := gen2 H hT0 G (.tup [.int (((rs.map V.ref).length : Nat) : Int), .int (a : Nat), .int (b : Nat)])
    rw [e1]
    clear e1
    refine ⟨T0, _, rfl, SqT.of f1, rfl, _, _, rfl, _, _, rfl, _, _, rfl, rfl, ?_⟩
    -- the first eight
    refine ⟨Nat.zero_le _, fun x1 hx1 => ?_⟩
    obtain ⟨H2, e2, s2, f2, d2, h2, G2⟩ := gen2 H1 hx1 G1 (.tup [])
    rw [e2]
    clear e2
    refine ⟨_, rfl, _, rfl, (by show 2 ≤ sizeLine; decide), fun x2 hx2 => ?_⟩
    obtain ⟨H3, e3, s3, f3, d3, h3, G3⟩ := gen2 H2 hx2 G2 (.tup [.int (a : Nat), .int (b : Nat)])
    rw [e3]
    clear e3
    refine ⟨_, rfl, t, _, rfl, at0 (s1.trans (s2.trans s3)), fun x3 hx3 => ?_⟩
    obtain ⟨H4, e4, s4, f4, d4, h4, G4⟩ := gen2 H3 hx3 G3 (.lst (deedV3 (a, b, v)))
    rw [e4]
    clear e4
    have s04 := s1.trans (s2.trans (s3.trans s4))
    refine ⟨_, rfl, _, rfl, _, rfl, t, _, _, _, rfl, rfl, at0 s04, at_of (j := 2) rfl rfl, (by show 3 ≤ sizeLine; decide), fun x4 hx4 => ?_⟩
    obtain ⟨H5, e5, s5, f5, d5, h5, G5⟩ := gen2 H4 hx4 G4 (.tup [.int (b : Nat), .int (a : Nat), .int v])
    rw [e5]
    clear e5
    have s05 := s04.trans s5
    refine ⟨_, rfl, _, rfl, _, rfl, t, _, _, _, rfl, rfl, at0 s05, at_of (j := 2) rfl rfl, (by show 3 ≤ sizeLine; decide), fun x5 hx5 => ?_⟩
    obtain ⟨H6, e6, s6, f6, d6, h6, G6⟩ := gen2 H5 hx5 G5 (.tup [.int (a : Nat), .int (a : Nat), .int v])
    rw [e6]
    clear e6
    refine ⟨_, rfl, _, rfl, _, rfl, (by show 3 ≤ sizeLine; decide), fun x6 hx6 => ?_⟩
    obtain ⟨H7, e7, s7, f7, d7, h7, G7⟩ := gen2 H6 hx6 G6 (.tup [.int (a : Nat), .int (b : Nat), .int k])
    rw [e7]
    clear e7
    intro x7 hx7
    obtain ⟨H8, e8, s8, f8, d8, h8, G8⟩ := gen2 H7 hx7 G7 (.dK [])
    rw [e8]
    clear e8
    refine ⟨(by show 8 ≤ sizeLine; decide), fun f hf => ?_⟩
    have base : Dts K (hid H8 g) [.non, .ref x1, .ref x2, .ref x3, .ref x4, .ref x5, .ref x6, .ref x7] [.none, .tuple [], .tuple [.int a, .int b], .list [.int a, .int b, .int v], .tuple [.int b, .int a, .int v], .tuple [.int a, .int a, .int v], .tuple [.int a, .int b, .int k], .dict []] :=
      .cons .non (.cons (.tup (d8 _ _ (d7 _ _ (d6 _ _ (d5 _ _ (d4 _ _ (d3 _ _ h2)))))) .nil)
        (.cons (.tup (d8 _ _ (d7 _ _ (d6 _ _ (d5 _ _ (d4 _ _ h3))))) (.cons (.int _) (.cons (.int _) .nil)))
        (.cons (.lst (d8 _ _ (d7 _ _ (d6 _ _ (d5 _ _ h4)))) (.cons (.int _) (.cons (.int _) (.cons (.int _) .nil))))
        (.cons (.tup (d8 _ _ (d7 _ _ (d6 _ _ h5))) (.cons (.int _) (.cons (.int _) (.cons (.int _) .nil))))
        (.cons (.tup (d8 _ _ (d7 _ _ h6)) (.cons (.int _) (.cons (.int _) (.cons (.int _) .nil))))
        (.cons (.tup (d8 _ _ h7) (.cons (.int _) (.cons (.int _) (.cons (.int _) .nil))))
        (.cons (.dct h8) .nil)))))))
    generalize ([.none, .tuple [], .tuple [.int a, .int b], .list [.int a, .int b, .int v], .tuple [.int b, .int a, .int v], .tuple [.int a, .int a, .int v], .tuple [.int a, .int b, .int k], .dict []] : List PyData) = ds0 at base
    obtain ⟨xs0, hxs0⟩ : ∃ xs0 : List V, [V.non, .ref x1, .ref x2, .ref x3, .ref x4, .ref x5, .ref x6, .ref x7] = xs0 := ⟨_, rfl⟩
    have l8 : xs0.length = 8 := by rw [← hxs0]; rfl
    rw [hxs0] at base ⊢
    obtain ⟨H9, e9, s9, f9, d9, h9, G9⟩ := gen2 H8 hf G8 (.lst xs0)
    rw [e9]
    clear e9
    have s08 := s05.trans (s6.trans (s7.trans s8))
    -- one more
    refine ⟨_, rfl, .inl ⟨rfl, _, SqL.of f9⟩, _, rfl, one_le, fun x8 hx8 => ?_⟩
    obtain ⟨Ha, ea, sa, fa, da, ha, Ga⟩ := gen2 H9 hx8 G9 (.lst [.ref t])
    rw [ea]
    clear ea
    have tA := sa _ _ (s9 _ _ (s08 _ _ ht))
    refine ⟨f, xs0, _, rfl, rfl, sa _ _ f9, by rw [l8]; decide, ?_⟩
    have f8' : f ≠ x8 := ne_of_none f9 hx8
    have fg : f ≠ g := (G8.ne hf).symm
    have ft : f ≠ t := (ne_of_none (s08 _ _ ht) hf).symm
    have dB : Same (hid H8 g) (hid (upd Ha f (.lst (xs0 ++ [.ref x8]))) g) := fun y o e => by
      have ny := hid_none e
      rw [hid_ne ny] at e ⊢
      rw [upd_ne (ne_of_none e hf)]
      exact sa _ _ (s9 _ _ e)
    have sB : Same H (upd Ha f (.lst (xs0 ++ [.ref x8]))) := fun y o e => by
      have := s08 _ _ e
      rw [upd_ne (ne_of_none this hf)]
      exact sa _ _ (s9 _ _ this)
    have hB8 : hid (upd Ha f (.lst (xs0 ++ [.ref x8]))) g x8 = some (.lst [.ref t]) := by
      rw [hid_ne (G9.ne hx8).symm, upd_ne f8'.symm]
      exact fa
    have hBt : hid (upd Ha f (.lst (xs0 ++ [.ref x8]))) g t = some (.tup (deedV3 (a, b, v))) := by
      rw [hid_ne tg, upd_ne ft.symm]
      exact tA
    have hBf : (upd Ha f (.lst (xs0 ++ [.ref x8]))) f = some (.lst (xs0 ++ [.ref x8])) := upd_same
    have GB := Ga.other (o := .lst (xs0 ++ [.ref x8])) fg
    generalize upd Ha f (.lst (xs0 ++ [.ref x8])) = HB at dB sB hB8 hBt hBf GB
    have tdt : Dt K (hid HB g) (.ref t) (deedP (a, b, v)) := .tup hBt (.cons (.int _) (.cons (.int _) (.cons (.int _) .nil)))
    have dt1 : Dts K (hid HB g) (xs0 ++ [.ref x8]) (ds0 ++ [.list [deedP (a, b, v)]]) := (Dts.same dB _ _ base).append (.cons (.lst hB8 (.cons tdt .nil)) .nil)
    -- odd ones in each place
    refine ⟨_, _, rfl, rfl, _, rfl, one_le, fun y1 hy1 => ?_⟩
    obtain ⟨Hb, eb, sb, fb, db, hb, Gb⟩ := gen2 HB hy1 GB (.lst [.int 0])
    rw [eb]
    clear eb
    refine ⟨_, _, rfl, rfl, ⟨by decide, by decide, by decide⟩, (by show 7 ≤ sizeLine; decide), fun L hL => ?_⟩
    obtain ⟨odds, hodds⟩ : ∃ odds : List V, [V.non, .bl true, .str "0", .int (0 - 1), .int (((rs.map V.ref).length : Nat) : Int), .ref y1, .int ((10 : Int) ^ (29 : Int).toNat)] = odds := ⟨_, rfl⟩
    have od : Dts K (hid Hb g) odds [.none, .bool true, .str "0", .int (0 - 1), .int (((rs.map V.ref).length : Nat) : Int), .list [.int 0], .int ((10 : Int) ^ (29 : Int).toNat)] := by
      rw [← hodds]
      exact .cons .non (.cons (.bl _) (.cons (.str _) (.cons (.int _) (.cons (.int _) (.cons (.lst hb (.cons (.int _) .nil)) (.cons (.int _) .nil))))))
    have lodd : odds.length = 7 := by rw [← hodds]; rfl
    rw [hodds]
    obtain ⟨Hc, ec, sc, fc, dc, hc, Gc⟩ := gen2 Hb hL Gb (.lst odds)
    rw [ec]
    clear ec
    have sBc := sb.trans sc
    have dBc := db.trans dc
    refine ⟨L, rfl, ⟨_, SqL.of fc⟩, ?_⟩
    refine for_list (K := K) (a := L) (xs := odds) (fun i σ H' => ∃ (p : Addr) (ov : Option V) (xs : List V) (ds : List PyData), σ = [some (.ref g), some (.int k), some (.ref c), some (.ref t), some (.int (((rs.map V.ref).length : Nat) : Int)), some (.int (a : Nat)), some (.int (b : Nat)), some (.ref p), ov, none, none] ∧ Same Hc H' ∧ H' p = some (.lst xs) ∧ Dts K (hid H' g) xs ds ∧ xs.length = 9 + 3 * i)
      ⟨f, _, _, _, rfl, Same.refl _, sBc _ _ hBf, Dts.same dBc _ _ dt1, by rw [List.length_append, l8]; rfl⟩ (fun i σ H' _ z => by
        obtain ⟨_, _, _, _, _, s', _⟩ := z
        exact SqL.of (s' _ _ fc)) ?_ ?_
    · rintro i o σ Hd hi ⟨p, ov, xs, ds, rfl, sd, hp, dp, lx⟩
      have il := (List.getElem?_eq_some_iff.mp hi).1
      obtain ⟨dO, _, ddO⟩ := od.get hi
      have Gd := Gc.same sd
      have atd : ∀ {H' : Hp}, Same Hd H' → SqT K H' t (deedV3 (a, b, v)) := fun s => SqT.of (s _ _ (sd _ _ (sBc _ _ (sB _ _ ht))))
      have dO2 := (ddO.same dc).same (hid_mono sd)
      refine ⟨_, rfl, _, rfl, _, rfl, _, rfl, t, _, _, _, rfl, rfl, atd (Same.refl _), at_of (j := 2) rfl rfl, (by show 3 ≤ sizeLine; decide), fun z1 hz1 => ?_⟩
      obtain ⟨I1, k1, u1, g1, w1, v1, M1⟩ := gen2 Hd hz1 Gd (.tup [o, .int (b : Nat), .int v])
      rw [k1]
      clear k1
      refine ⟨_, rfl, _, rfl, _, rfl, t, _, _, _, rfl, rfl, atd u1, at_of (j := 2) rfl rfl, (by show 3 ≤ sizeLine; decide), fun z2 hz2 => ?_⟩
      obtain ⟨I2, k2', u2, g2, w2, v2, M2⟩ := gen2 I1 hz2 M1 (.tup [.int (a : Nat), o, .int v])
      rw [k2']
      clear k2'
      refine ⟨_, rfl, _, rfl, _, rfl, (by show 3 ≤ sizeLine; decide), fun z3 hz3 => ?_⟩
      obtain ⟨I3, k3, u3, g3, w3, v3, M3⟩ := gen2 I2 hz3 M2 (.tup [.int (a : Nat), .int (b : Nat), o])
      rw [k3]
      clear k3
      refine ⟨(by show 3 ≤ sizeLine; decide), fun z4 hz4 => ?_⟩
      obtain ⟨I4, k4, u4, g4, w4, v4, M4⟩ := gen2 I3 hz4 M3 (.lst [.ref z1, .ref z2, .ref z3])
      rw [k4]
      clear k4
      refine ⟨p, z4, _, _, rfl, rfl, u4 _ _ (u3 _ _ (u2 _ _ (u1 _ _ hp))), g4, by rw [lx]; exact Nat.le_of_lt (small1000 (by show 9 + 3 * i + 3 ≤ 1000; omega)), fun z5 hz5 => ?_⟩
      obtain ⟨I5, k5, u5, g5, w5, v5, M5⟩ := gen2 I4 hz5 M4 (.lst (xs ++ [.ref z1, .ref z2, .ref z3]))
      rw [k5]
      clear k5
      have w15 := w2.trans (w3.trans (w4.trans w5))
      have wall := w1.trans w15
      refine ⟨z5, _, _, ds ++ [.tuple [dO, .int b, .int v], .tuple [.int a, dO, .int v], .tuple [.int a, .int b, dO]], rfl, sd.trans (u1.trans (u2.trans (u3.trans (u4.trans u5)))), g5, (Dts.same wall _ _ dp).append (.cons (.tup (w15 _ _ v1) (.cons (dO2.same wall) (.cons (.int _) (.cons (.int _) .nil)))) (.cons (.tup (w5 _ _ (w4 _ _ (w3 _ _ v2))) (.cons (.int _) (.cons (dO2.same wall) (.cons (.int _) .nil)))) (.cons (.tup (w5 _ _ (w4 _ _ v3)) (.cons (.int _) (.cons (.int _) (.cons (dO2.same wall) .nil)))) .nil))), ?_⟩
      rw [List.length_append, lx]
      show 9 + 3 * i + 3 = _
      omega
    rintro σ Hd ⟨p, ov, xs, ds, rfl, sd, hp, dp, lx⟩
    rw [lodd] at lx
    have Gd := Gc.same sd
    have atd : ∀ {H' : Hp}, Same Hd H' → SqT K H' t (deedV3 (a, b, v)) := fun s => SqT.of (s _ _ (sd _ _ (sBc _ _ (sB _ _ ht))))
    -- all kinds
    refine ⟨_, rfl, _, rfl, k, rfl, by omega, by omega, fun D hD => ?_⟩
    refine lc_objs (walk_nat (n := k.toNat)) (fun j => .tup [.int (a : Nat), .int (b : Nat), .int (j : Nat)]) hD (by rw [sizeLine_eq]; omega) (fun _ _ => trivial) ?_ ?_
    · rintro j y H5 H6 M hj s6 ⟨rfl, rfl⟩ hM
      refine ⟨rfl, _, rfl, _, rfl, _, rfl, (by show 3 ≤ sizeLine; decide), fun l hl => ?_⟩
      obtain ⟨H7, e7, s7, f7⟩ := gen H6 hl (.tup [.int (a : Nat), .int (b : Nat), .int (j : Nat)])
      rw [e7]
      exact hM H7 l s7 hl f7
    intro He qs se ob
    have De := Dts.same (hid_mono se) _ _ dp
    have Ge := Gd.same se
    have Dg : D ≠ g := (Gd.ne hD).symm
    have dq : ∃ es, Dts K (hid He g) (qs.map V.ref) es := by
      have one : ∀ (l : List Addr), (∀ r ∈ l, r ∈ qs) → ∃ es, Dts K (hid He g) (l.map V.ref) es := fun l => by
        induction l with
        | nil => exact fun _ => ⟨[], .nil⟩
        | cons r l ih =>
          intro h
          obtain ⟨es, he⟩ := ih fun x hx => h x (List.mem_cons_of_mem _ hx)
          have rq := h r (List.mem_cons_self ..)
          obtain ⟨j, hj⟩ := List.getElem?_of_mem rq
          have hr' := ob.row j r hj
          exact ⟨_, .cons (.tup (hid_in hr' (Gd.ne (ob.new r rq)).symm) (.cons (.int _) (.cons (.int _) (.cons (.int _) .nil)))) he⟩
      exact one qs fun _ h => h
    obtain ⟨es, dq⟩ := dq
    have lq : qs.length ≤ 9 := by
      have := ob.len
      omega
    refine ⟨p, D, _, _, rfl, rfl, se _ _ hp, ob.top, by rw [List.length_map]; exact Nat.le_of_lt (small1000 (by omega)), fun z1 hz1 => ?_⟩
    obtain ⟨I1, k1, u1, g1, w1, v1, M1⟩ := gen2 He hz1 Ge (.lst (xs ++ qs.map V.ref))
    rw [k1]
    clear k1
    have D1 : Dts K (hid I1 g) (xs ++ qs.map V.ref) (ds ++ es) := (Dts.same w1 _ _ De).append (Dts.same w1 _ _ dq)
    refine ⟨_, rfl, one_le, fun z2 hz2 => ?_⟩
    obtain ⟨I2, k2', u2, g2, w2, v2, M2⟩ := gen2 I1 hz2 M1 (.tup [.int 0])
    rw [k2']
    clear k2'
    refine ⟨t, z2, _, _, rfl, rfl, atd (se.trans (u1.trans u2)), SqT.of g2, by simp [deedV3], (by show 4 ≤ sizeLine; decide), (fun z => by cases z), fun _ z3 hz3 => ?_⟩
    obtain ⟨I3, k3, u3, g3, w3, v3, M3⟩ := gen2 I2 hz3 M2 (.tup (deedV3 (a, b, v) ++ [.int 0]))
    rw [k3]
    clear k3
    refine ⟨(by show 3 ≤ sizeLine; decide), fun z4 hz4 => ?_⟩
    obtain ⟨I4, k4, u4, g4, w4, v4, M4⟩ := gen2 I3 hz4 M3 (.tup [.int 0, .int 1, .int 0])
    rw [k4]
    clear k4
    refine ⟨_, rfl, _, rfl, _, _, rfl, rfl, ?_⟩
    refine ⟨_, rfl, t, _, _, _, rfl, rfl, atd (se.trans (u1.trans (u2.trans (u3.trans u4)))), at_of (j := 2) rfl rfl, (by show 3 ≤ sizeLine; decide), fun z5 hz5 => ?_⟩
    obtain ⟨I5, k5, u5, g5, w5, v5, M5⟩ := gen2 I4 hz5 M4 (.tup [.int (a : Nat), .int ((((rs.map V.ref).length : Nat) : Int) - 1), .int v])
    rw [k5]
    clear k5
    refine ⟨(by show 3 ≤ sizeLine; decide), fun z6 hz6 => ?_⟩
    obtain ⟨I6, k6, u6, g6, w6, v6, M6⟩ := gen2 I5 hz6 M5 (.lst [.ref z3, .ref z4, .ref z5])
    rw [k6]
    clear k6
    refine ⟨z1, z6, _, _, rfl, rfl, u6 _ _ (u5 _ _ (u4 _ _ (u3 _ _ (u2 _ _ g1)))), g6, ?_, fun z7 hz7 => ?_⟩
    · rw [List.length_append, List.length_map]
      exact Nat.le_of_lt (small1000 (by show xs.length + qs.length + 3 ≤ 1000; omega))
    obtain ⟨I7, k7, u7, g7, w7, v7, M7⟩ := gen2 I6 hz7 M6 (.lst ((xs ++ qs.map V.ref) ++ [.ref z3, .ref z4, .ref z5]))
    rw [k7]
    clear k7
    have w47 := w5.trans (w6.trans w7)
    have D7 : Dts K (hid I7 g) ((xs ++ qs.map V.ref) ++ [.ref z3, .ref z4, .ref z5]) ((ds ++ es) ++ [.tuple [.int a, .int b, .int v, .int 0], .tuple [.int 0, .int 1, .int 0], .tuple [.int a, .int ((((rs.map V.ref).length : Nat) : Int) - 1), .int v]]) :=
      (Dts.same (w2.trans (w3.trans (w4.trans w47))) _ _ D1).append (.cons (.tup (w47 _ _ (w4 _ _ v3)) (.cons (.int _) (.cons (.int _) (.cons (.int _) (.cons (.int _) .nil))))) (.cons (.tup (w47 _ _ v4) (.cons (.int _) (.cons (.int _) (.cons (.int _) .nil)))) (.cons (.tup (w7 _ _ (w6 _ _ v5)) (.cons (.int _) (.cons (.int _) (.cons (.int _) .nil)))) .nil)))
    have bAll : But g H I7 := (But.of sB).trans ((But.of (sBc.trans sd)).trans (.of (se.trans (u1.trans (u2.trans (u3.trans (u4.trans (u5.trans (u6.trans u7)))))))))
    generalize ((ds ++ es) ++ [.tuple [.int a, .int b, .int v, .int 0], .tuple [.int 0, .int 1, .int 0], .tuple [.int a, .int ((((rs.map V.ref).length : Nat) : Int) - 1), .int v]] : List PyData) = dsX at D7
    obtain ⟨xsX, hX⟩ : ∃ xsX, (xs ++ qs.map V.ref) ++ [V.ref z3, .ref z4, .ref z5] = xsX := ⟨_, rfl⟩
    have lX : xsX.length ≤ 60 := by
      rw [← hX, List.length_append, List.length_append, List.length_map]
      show xs.length + qs.length + 3 ≤ 60
      omega
    rw [hX] at g7 D7
    have z7g : z7 ≠ g := (M6.ne hz7).symm
    -- three drawn ones
    refine ⟨_, rfl, 3, rfl, by decide, by decide, fun Dr hDr => ?_⟩
    have Drg : Dr ≠ g := (M7.ne hDr).symm
    refine lc_it (walk_nat (n := (3 : Int).toNat)) (fun i H' => But g I7 H' ∧ Gen H' g (n + 100 - 20 * i) ∧ ∃ ys fs, H' Dr = some (.lst ys) ∧ Dts K (hid (hid H' g) Dr) ys fs ∧ ys.length = i) ⟨But.new hDr, (M7.new hDr).less (by omega), [], [], upd_same, .nil, rfl⟩ (fun _ _ _ _ => trivial) ?_ ?_
    · rintro i y H5 H6 hi ⟨b5, G5, ys, fs, hy, dy, ly⟩ ⟨rfl, rfl⟩
      have i3 : i < 3 := hi
      refine ⟨rfl, yes_of ?_⟩
      refine ⟨_, rfl, _, rfl, g, (((rs.map V.ref).length : Nat) : Int), n + 90 - 20 * i, rfl, by rw [lr]; omega, by rw [lr]; omega, G5.less (by omega), fun r1 N1 _ _ P1 c1 => ?_⟩
      refine ⟨_, _, rfl, rfl, _, rfl, _, rfl, g, k, n + 80 - 20 * i, rfl, by omega, by omega, P1.less (by omega), fun r2 N2 _ _ P2 c2 => ?_⟩
      refine ⟨(by show 3 ≤ sizeLine; decide), fun l hl => ?_⟩
      obtain ⟨N3, k3', u3', g3', w3', v3', Q3⟩ := gen2 N2 hl P2 (.tup [.int 0, .int (1 + r1), .int r2])
      rw [k3']
      clear k3'
      have b63 := c1.trans (c2.trans (.of u3'))
      have hy3 := b63 _ _ hy Drg
      have lD : l ≠ Dr := fun z => by
        have h1 := c2 _ _ (c1 _ _ hy Drg) Drg
        rw [← z, hl] at h1
        cases h1
      refine ⟨_, hy3, by rw [ly]; exact small1000 (by omega), fun b' o' e' nb => ?_, (Q3.other Drg).less (by omega), ys ++ [.ref l], fs ++ [.tuple [.int 0, .int (1 + r1), .int r2]], upd_same, ?_, by rw [List.length_append, ly]; rfl⟩
      · rw [upd_ne (ne_of_none e' hDr)]
        exact b63 _ _ (b5 _ _ e' nb) nb
      · have hu : hid (hid (upd N3 Dr (.lst (ys ++ [.ref l]))) g) Dr = hid (hid N3 g) Dr := by
          funext x
          by_cases c : x = Dr
          · subst c
            unfold hid
            rw [if_pos rfl, if_pos rfl]
          · rw [hid_ne c, hid_ne c]
            by_cases c2 : x = g
            · subst c2
              unfold hid
              rw [if_pos rfl, if_pos rfl]
            · rw [hid_ne c2, hid_ne c2, upd_ne c]
        rw [hu]
        exact (Dts.same (hid_mono b63.hid) _ _ dy).append (.cons (.tup (hid_in v3' lD) (.cons (.int _) (.cons (.int _) (.cons (.int _) .nil)))) .nil)
    · rintro H5 ⟨b5, G5, ys, fs, hy, dy, ly⟩
      have ly3 : ys.length = 3 := ly
      refine ⟨z7, Dr, _, _, rfl, rfl, b5 _ _ g7 z7g, hy, by rw [ly3]; exact Nat.le_of_lt (small1000 (by omega)), fun z8 hz8 => ?_⟩
      obtain ⟨I8, k8, u8, g8, w8, v8, M8⟩ := gen2 H5 hz8 G5 (.lst (xsX ++ ys))
      rw [k8]
      clear k8
      refine q z8 _ (dsX ++ fs) I8 (bAll.trans (b5.trans (.of u8))) (M8.less ?_) g8 (G5.ne hz8).symm ((Dts.same (b5.hid.trans w8) _ _ D7).append (Dts.same (fun x o e => w8 _ _ (hid_same _ _ e)) _ _ dy)) (by rw [List.length_append, ly3]; omega)
      have : (3 : Int).toNat = 3 := rfl
      omega
end
end K03

namespace GL
open PySem PySem.Spec PyProof.Rows L2
theorem setT_twice (kss : List (List Int)) (b a : Nat) (v w : Int) : setT (setT kss b a v) b a w = setT kss b a w := by
  unfold setT
  rw [List.set_set]
  by_cases hb : b < kss.length
  · rw [getD_set, if_pos ⟨rfl, hb⟩, List.set_set]
  · rw [List.set_eq_of_length_le (by omega), List.set_eq_of_length_le (by omega)]
theorem setT_same {k : Int} {kss : List (List Int)} (f : Fine k kss) {a b : Nat} (ab : a < b) (bn : b < kss.length) : setT kss b a (tieN kss a b) = kss := by
  have e : tieN kss a b = (kss.getD b []).getD a 0 := by
    unfold tieN
    rw [Nat.max_eq_right (by omega), Nat.min_eq_left (by omega)]
  have la := f.row_len bn
  have e2 : (kss.getD b []).set a ((kss.getD b []).getD a 0) = kss.getD b [] := by
    rw [List.getD_eq_getElem?_getD (l := kss.getD b []), List.getElem?_eq_getElem (by omega)]
    exact List.set_getElem_self _
  unfold setT
  rw [e, e2, List.getD_eq_getElem?_getD, List.getElem?_eq_getElem bn]
  exact List.set_getElem_self _
theorem un_one {k : Int} {kss : List (List Int)} (f : Fine k kss) {a b : Nat} {v : Int} (ab : a < b) (bn : b < kss.length) (ne : v ≠ tieN kss a b) : unK kss (setT kss b a v) = [(a, b)] := by
  have hm : (a, b) ∈ cplTo kss.length kss.length := (cpl_mem _ _ a b).mpr ⟨by omega, ab, bn⟩
  have hf : ∀ c ∈ cplTo kss.length kss.length, (!decide (tieN kss c.2 c.1 = tieN (setT kss b a v) c.2 c.1)) = (c == (a, b)) := fun c hc => by
    obtain ⟨w1, w2, w3⟩ := (cpl_mem _ _ c.1 c.2).mp hc
    rw [tie_setT f ab bn]
    by_cases e : c = (a, b)
    · subst e
      rw [if_pos (by show max b a = b ∧ min b a = a; omega), beq_self_eq_true]
      have : ¬ tieN kss b a = v := fun z => ne (by rw [← z, tieN_comm])
      rw [decide_eq_false this]
      rfl
    · have : ¬ (max c.2 c.1 = b ∧ min c.2 c.1 = a) := fun z => e (Prod.ext (by omega) (by omega))
      rw [if_neg this, decide_eq_true rfl]
      simp [e]
  unfold unK
  rw [List.filter_congr hf]
  have : ∀ l : List (Nat × Nat), l.Nodup → (a, b) ∈ l → l.filter (fun c => c == (a, b)) = [(a, b)] := fun l => by
    induction l with
    | nil => intro _ h; cases h
    | cons x l ih =>
      intro nd h
      obtain ⟨h1, h2⟩ := List.nodup_cons.mp nd
      by_cases e : x = (a, b)
      · subst e
        rw [List.filter_cons, if_pos (by simp)]
        have : l.filter (fun c => c == (a, b)) = [] := List.filter_eq_nil_iff.mpr fun y hy => by
          have : y ≠ (a, b) := fun z => h1 (by rw [← z]; exact hy)
          simp [this]
        rw [this]
      · have hm : (a, b) ∈ l := by
          rcases List.mem_cons.mp h with h | h
          · exact (e h.symm).elim
          · exact h
        rw [List.filter_cons, if_neg (by simp [e])]
        exact ih h2 hm
  exact this _ (cpl_nodup _ _) hm
theorem back_ok {k : Int} {kss : List (List Int)} (f : Fine k kss) {a b : Nat} {v : Int} (ab : a < b) (bn : b < kss.length) (ne : v ≠ tieN kss a b) (al : alikeB kss a b = true) : deedB k (setT kss b a v) (deedP (a, b, tieN kss a b)) = true := by
  have i := tieN_in f (i := a) (j := b) (by omega) bn (by omega)
  have e : tieN (setT kss b a v) a b = v := by rw [tie_setT f ab bn, if_pos (by omega)]
  unfold deedP
  rw [deed_of ab (by rw [setT_len]; exact bn), below_of i.1 i.2, e, decide_eq_false (fun z => ne z.symm), alike_setT f ab bn v al]
  rfl
theorem back_do {k : Int} {kss : List (List Int)} (f : Fine k kss) {a b : Nat} {v : Int} (ab : a < b) (bn : b < kss.length) : doD (setT kss b a v) (deedP (a, b, tieN kss a b)) = kss := by
  show setT (setT kss b a v) b a (tieN kss a b) = kss
  rw [setT_twice, setT_same f ab bn]
theorem among_ok {k : Int} {kss : List (List Int)} (f : Fine k kss) {l : List Nat} {a b i j : Nat} {v : Int} (nd : l.Nodup) (bd : ∀ x ∈ l, x < kss.length) (hi : l[i]? = some a) (hj : l[j]? = some b) (ij : i < j) (v0 : 0 ≤ v) (vk : v < k) (ne : v ≠ tieN kss a b) (al : alikeB kss a b = true) : deedB k (namedK kss l) (.tuple [.int (i : Nat), .int (j : Nat), .int v]) = true := by
  obtain ⟨li, ei⟩ := List.getElem?_eq_some_iff.mp hi
  obtain ⟨lj, ej⟩ := List.getElem?_eq_some_iff.mp hj
  have gi : l.getD i 0 = a := by rw [List.getD_eq_getElem?_getD, hi]; rfl
  have gj : l.getD j 0 = b := by rw [List.getD_eq_getElem?_getD, hj]; rfl
  rw [deed_of ij (by rw [named_len]; exact lj), below_of v0 vk, tie_named li lj (by omega), gi, gj, decide_eq_false ne, alike_named nd bd li lj (by omega) (by rw [ei, ej]; exact al)]
  rfl
def spDeedRight : Sp := fun vs H Q _ => ∃ (g : Addr) (k : Int) (c t : Addr) (n : Nat) (rs : List Addr) (kss : List (List Int)) (d : Nat × Nat × Int), vs = [.ref g, .int k, .ref c, .ref t] ∧ 2 ≤ k ∧ k ≤ 9 ∧ Gen H g (n + 300) ∧ Tab H c rs kss ∧ Fine k kss ∧ 1 ≤ kss.length ∧ kss.length ≤ 40 ∧ c ≠ g ∧ g ∉ rs ∧ H t = some (.tup (deedV3 d)) ∧ deedB k kss (deedP d) = true ∧
  ∀ H', But g H H' → Gen H' g n → Q (.bl true) H'
end GL

namespace K03
open PySem PySem.Spec PyProof.Rows
open L2
open GL
section
variable {P : Program} {w : World} {K : PySem.W.Frag} {mg : Str → Option Value} {base : Heap}
abbrev sDeedRight : Stmt := topS 61
abbrev nDeedRight : List Str := ["_law_generator_here", "_law_kinds", "_law_company_here", "_law_deed", "_law_there", "_law_kept", "_law_back", "_law_lot", "_law_person", "_law_row"]
theorem scDeedRight : FnScope nDeedRight ["_law_generator_here", "_law_kinds", "_law_company_here", "_law_deed"] (defScope sDeedRight) := ⟨rfl, rfl, rfl, by decide +kernel, rfl, by decide +kernel, by decide +kernel⟩
theorem ok_deedRight {f : Addr} {fd : FuncData} (F : Fun K "_law_deed_right" "_law_deed_right" sDeedRight f fd) (T : Bi mg) (Ustandalike : Use P w K mg base "stand_alike" ["kinds", "company", "couple"] spStand 6) (Uamong : Use P w K mg base "among" ["kinds", "company", "lot"] spAmong 6) (Udiffering : Use P w K mg base "differing" ["kinds", "one", "other"] spDiffer 7) (Uisdeed : Use P w K mg base "is_deed" ["kinds", "company", "value"] (spIsDeed K) 6) (UdoneK : UseK P w K mg base "done" ["kinds", "company", "deed"] ["deed", "company", "kinds"] gQ210 gQV210 (spDone K) 7) (Udone : Use P w K mg base "done" ["kinds", "company", "deed"] (spDone K) 7) (ULrandom : Use P w K mg base "_law_random" ["_law_generator_here", "_law_bound"] spRandom 2) (ULtie : Use P w K mg base "_law_tie" ["_law_company_here", "_law_one", "_law_other"] spTie 1) (ULretied : Use P w K mg base "_law_retied" ["_law_company_here", "_law_deed"] spRetied 1) : FnG P w K mg base CX0 8 f fd ["_law_generator_here", "_law_kinds", "_law_company_here", "_law_deed"] spDeedRight := by
  obtain ⟨fUdoneK, fdUdoneK, FUdoneK, mUdoneK, kUdoneK, bUdoneK⟩ := UdoneK
  refine FnG.mk' F scDeedRight (fun vs H Q E h => ?_) (fun cdv A outer s H vs Q E hgd hr h => ?_)
  · obtain ⟨g, k, c, t, n, rs, kss, d, rfl, _⟩ := h
    rfl
  · obtain ⟨g, k, c, t, n, rs, kss, d, rfl, k2, k9, G, tb, fine, m1, m40, cg, gr, ht, hB, q⟩ := h
    have hgd' : (A.deeper (envOfC "_law_deed_right" (defScope sDeedRight) s.heap.objs.size f cdv)).guards = some [] := hgd
    have h65 : (A.deeper (envOfC "_law_deed_right" (defScope sDeedRight) s.heap.objs.size f cdv)).units + 65 < cLine := by
      have := hr.un
      omega
    refine ⟨_, (pss_cons (ps_par (i := 4) (j := 5) rfl scDeedRight.nd rfl rfl (by decide) rfl rfl (pa_cons (pe_use Udone hr (by rfl) (pa_cons (pv 1) (pa_cons (pv 2) (pa_cons (pv 3) pa_nil)))) (pa_cons (pe_callB (call_repD hgd' hr.units) (by rfl) T.repr (by decide +kernel) (pa_cons (pv 2) pa_nil)) pa_nil)) (by rfl))
      (pss_cons (ps_if (PW.pt (pw_or (pt_cmpR (op_neD hr.units) (pv 4) (pe_use ULretied (hr.mono (by decide)) (by rfl) (pa_cons (pv 2) (pa_cons (pv 3) pa_nil))) (nomark _)) (pw_or1 (pt_cmpR (op_neD hr.units) (pe_kws FUdoneK hr (by rfl) mUdoneK kUdoneK bUdoneK pass0 (pk_cons (pv 3) (pk_cons (pv 2) (pk_cons (pv 1) pk_nil)))) (pv 4) (nomark _)))))
        (pss_one (ps_ret pe_bl)) pss_nil)
      (pss_cons (ps_if (pt_cmpR (op_neD hr.units) (pe_use Udiffering hr (by rfl) (pa_cons (pv 1) (pa_cons (pv 2) (pa_cons (pv 4) pa_nil)))) (pe_lst (pa_cons (pe_tup (pa_cons (pe_ix ix_tup (pv 3) pe_int (fun _ _ => rfl)) (pa_cons (pe_ix ix_tup (pv 3) pe_int (fun _ _ => rfl)) pa_nil))) pa_nil)) (nomark _))
        (pss_one (ps_ret pe_bl)) pss_nil)
      (pss_cons (ps_if (pt_cmpR op_notBl (pe_use Ustandalike (hr.mono (by decide)) (by rfl) (pa_cons (pv 1) (pa_cons (pv 4) (pa_cons (pe_tup (pa_cons (pe_ix ix_tup (pv 3) pe_int (fun _ _ => rfl)) (pa_cons (pe_ix ix_tup (pv 3) pe_int (fun _ _ => rfl)) pa_nil))) pa_nil)))) pe_bl (nomark _))
        (pss_one (ps_ret pe_bl)) pss_nil)
      (pss_cons (ps_set (i := 6) scDeedRight.nd rfl (Or.inl rfl) (pe_tup (pa_cons (pe_ix ix_tup (pv 3) pe_int (fun _ _ => rfl)) (pa_cons (pe_ix ix_tup (pv 3) pe_int (fun _ _ => rfl)) (pa_cons (pe_use ULtie (hr.mono (by decide)) (by rfl) (pa_cons (pv 2) (pa_cons (pe_ix ix_tup (pv 3) pe_int (fun _ _ => rfl)) (pa_cons (pe_ix ix_tup (pv 3) pe_int (fun _ _ => rfl)) pa_nil)))) pa_nil)))))
      (pss_cons (ps_if (PW.pt (pw_or (pt_cmpR op_notBl (pe_use Uisdeed (hr.mono (by decide)) (by rfl) (pa_cons (pv 1) (pa_cons (pv 4) (pa_cons (pv 6) pa_nil)))) pe_bl (nomark _)) (pw_or1 (pt_cmpR (op_neD hr.units) (pe_use Udone hr (by rfl) (pa_cons (pv 1) (pa_cons (pv 4) (pa_cons (pv 6) pa_nil)))) (pv 2) (nomark _)))))
        (pss_one (ps_ret pe_bl)) pss_nil)
      (pss_cons (ps_setLc (i := 7) (own := [("_law_person", 8)]) (g := (gName 8)) (tt := (tOr (tTest (tOp (rIn K false) (tVar 8) (tSl (rSlT K) (tVar 3) tNoPart (tPart (tC (.int 2)))))) (tTest (tOp rEq (tCall spRandom [] E0 (tCons (tVar 0) (tCons (tC (.int 2)) tNil))) (tC (.int 0)))))) (te := (tVar 8)) rfl scDeedRight.nd rfl rfl (sw_true rfl rfl rfl (by decide +kernel)) (pi_range1 (by rfl) T.range (pa_cons (pe_callB call_len_seq (by rfl) T.len PySem.boot_len (pa_cons (pv 2) pa_nil)) pa_nil))
          (blkOk_by (N := nDeedRight) (sc := (defScope sDeedRight)) (by decide +kernel)) (fun _ _ _ _ _ => (pg_name (i := 8) scDeedRight.nd rfl (Or.inl rfl))) (fun _ _ _ _ _ => by exact (pts_one (PW.pt (pw_or (pt_cmpR op_in_seq (pv 8) (pe_slice sl_tup (pv 3) po_none (po_some pe_int)) (by rfl)) (pw_or1 (pt_cmpR op_eq (pe_use ULrandom (hr.mono (by decide)) (by rfl) (pa_cons (pv 0) (pa_cons pe_int pa_nil))) pe_int (nomark _)))))))
          (fun _ _ _ _ _ => by exact (pv 8)))
      (pss_cons (ps_if (pt_cmpR op_notBl (pe_use Uisdeed (hr.mono (by decide)) (by rfl) (pa_cons (pv 1) (pa_cons (pe_use Uamong (hr.mono (by decide)) (by rfl) (pa_cons (pv 1) (pa_cons (pv 2) (pa_cons (pv 7) pa_nil)))) (pa_cons (pe_tup (pa_cons (pe_bm PySem.F.plainAttrs_list PySem.F.slot_list_index PySem.F.type_list_index (mt_indexD h65) (pv 7) (pa_cons (pe_ix ix_tup (pv 3) pe_int (fun _ _ => rfl)) pa_nil)) (pa_cons (pe_bm PySem.F.plainAttrs_list PySem.F.slot_list_index PySem.F.type_list_index (mt_indexD h65) (pv 7) (pa_cons (pe_ix ix_tup (pv 3) pe_int (fun _ _ => rfl)) pa_nil)) (pa_cons (pe_ix ix_tup (pv 3) pe_int (fun _ _ => rfl)) pa_nil)))) pa_nil)))) pe_bl (nomark _))
        (pss_one (ps_ret pe_bl)) pss_nil)
      (pss_cons (ps_for PassesOwn.never rfl (pi_list (pv 4)) (pg_name (i := 9) scDeedRight.nd rfl (Or.inl rfl))
        (pss_one (ps_expr (pe_bm PySem.F.plainAttrs_list PySem.F.slot_list_append PySem.F.type_list_append mt_append (pv 9) (pa_cons pe_non pa_nil)))))
      (pss_one (ps_ret (pe_and (pe_cmpR (op_eqD hr.units) (pe_use Udone hr (by rfl) (pa_cons (pv 1) (pa_cons (pv 2) (pa_cons (pv 3) pa_nil)))) (pe_use ULretied (hr.mono (by decide)) (by rfl) (pa_cons (pv 2) (pa_cons (pv 3) pa_nil))) (nomark _)) (pe_one (pe_cmpR op_eq (pe_callB (call_repD hgd' hr.units) (by rfl) T.repr (by decide +kernel) (pa_cons (pv 2) pa_nil)) (pv 5) (nomark _))))))))))))))), ?_⟩
    obtain ⟨a, b, v, ed, ab, bn, v0, vk, ne, al⟩ := deed_nat hB
    have e3 : d = (a, b, v) := by
      unfold deedP at ed
      injection ed with ed
      simp at ed
      obtain ⟨x1, x2, x3⟩ := ed
      exact Prod.ext (by omega) (Prod.ext (by show d.2.1 = b; omega) x3)
    subst e3
    have tg : t ≠ g := by
      obtain ⟨_, _, _, hg, _⟩ := G
      exact ne_of ht hg (by intro z; cases z)
    have kl : kss.length = (setT kss b a v).length := (setT_len ..).symm
    have f2 : Fine k (setT kss b a v) := setT_fine fine bn v0 vk
    obtain ⟨fi1, fi2, fi3⟩ := tab_fits fine k9 m40
    have tdt : ∀ {H' : Hp}, Same H H' → Dt K H' (.ref t) (deedP (a, b, v)) := fun s => .tup (s _ _ ht) (.cons (.int _) (.cons (.int _) (.cons (.int _) .nil)))
    have atd : ∀ {H' : Hp}, Same H H' → SqT K H' t (deedV3 (a, b, v)) := fun s => SqT.of (s _ _ ht)
    refine ⟨_, rfl, _, rfl, _, rfl, k, c, .ref t, deedP (a, b, v), rs, kss, rfl, k2, k9, tb, fine, m1, m40, tdt (Same.refl _), hB, fun p ps H1 s1 u1 np pn nr => ?_⟩
    have u1' : Tab H1 p ps (setT kss b a v) := u1
    have t1 := tb.same s1
    refine ⟨_, rfl, .ref c, tabP kss, rfl, t1.dt, fi1, fi2, fi3, _, _, rfl, ?_⟩
    refine ⟨_, rfl, _, rfl, _, rfl, c, t, rs, kss, k, a, b, v, rfl, t1, fine, m40, s1 _ _ ht, ab, bn, fun p2 ps2 H2 s2 u2 _ _ => ?_⟩
    refine ⟨tabP (setT kss b a v), tabP (setT kss b a v), (u1'.same s2).dp, u2.dp, shaped_tab _, shaped_tab _, _, rfl, ?_⟩
    rw [eqv_tab, decide_eq_true rfl]
    refine iteF ?_
    have s02 := s1.trans s2
    refine ⟨_, rfl, _, rfl, _, rfl, k, c, .ref t, deedP (a, b, v), rs, kss, rfl, k2, k9, tb.same s02, fine, m1, m40, tdt s02, hB, fun p3 ps3 H3 s3 u3 _ _ _ => ?_⟩
    have s13 := s2.trans s3
    refine ⟨_, rfl, tabP (setT kss b a v), tabP (setT kss b a v), u3.dp, (u1'.same s13).dp, shaped_tab _, shaped_tab _, _, rfl, ?_⟩
    rw [eqv_tab, decide_eq_true rfl]
    refine iteF ?_
    have s03 := s1.trans s13
    -- where they differ
    refine ⟨_, rfl, _, rfl, _, rfl, k, c, p, rs, ps, kss, _, rfl, k2, k9, tb.same s03, u1'.same s13, fine, f2, m1, m40, setT_len .., fun L ts H4 s4 _ R e => ?_⟩
    have e' : ts.map (·.2) = unK kss (setT kss b a v) := e
    rw [un_one fine ab bn ne] at e'
    have s04 := s03.trans s4
    refine ⟨_, rfl, t, _, _, _, rfl, rfl, atd s04, at_of (j := 0) rfl rfl, _, rfl, t, _, _, _, rfl, rfl, atd s04, at_of (j := 1) rfl rfl, (by show 2 ≤ sizeLine; decide), fun z1 hz1 => ?_⟩
    obtain ⟨H5, e5, s5, f5⟩ := gen H4 hz1 (.tup (pairT (a, b)))
    have e5' : upd H4 z1 (.tup [.int (a : Nat), .int (b : Nat)]) = H5 := e5
    rw [e5']
    clear e5 e5'
    refine ⟨one_le, fun z2 hz2 => ?_⟩
    obtain ⟨H6, e6, s6, f6⟩ := gen H5 hz2 (.lst [.ref z1])
    rw [e6]
    clear e6
    have s46 := s5.trans s6
    refine ⟨_, cplP [(a, b)], (R.same s46).dp, dp_cpl (ts := [(z1, a, b)]) f6 (fun t ht => by rw [List.mem_singleton] at ht; subst ht; exact s6 _ _ f5), shaped_cpl _, shaped_cpl _, _, rfl, ?_⟩
    rw [eqv_cpl, decide_eq_true e']
    refine iteF ?_
    have s06 := s04.trans s46
    have s16 := s13.trans (s4.trans s46)
    -- they still stand alike
    refine ⟨_, rfl, _, rfl, ?_⟩
    refine ⟨_, rfl, t, _, _, _, rfl, rfl, atd s06, at_of (j := 0) rfl rfl, _, rfl, t, _, _, _, rfl, rfl, atd s06, at_of (j := 1) rfl rfl, (by show 2 ≤ sizeLine; decide), fun z3 hz3 => ?_⟩
    obtain ⟨H7, e7, s7, f7⟩ := gen H6 hz3 (.tup (pairT (a, b)))
    have e7' : upd H6 z3 (.tup [.int (a : Nat), .int (b : Nat)]) = H7 := e7
    rw [e7']
    clear e7 e7'
    refine ⟨setT kss b a v, (a, b), ⟨⟨k, p, z3, ps, rfl, k2, k9, (u1'.same s16).same s7, f2, f7⟩, by rw [setT_len]; exact m1, by rw [setT_len]; exact m40, ab, by rw [setT_len]; exact bn⟩, fun H8 s8 => ?_⟩
    have al2 : alikeB (setT kss b a v) a b = true := alike_setT fine ab bn v al
    rw [al2]
    refine ⟨_, _, rfl, rfl, _, rfl, iteNS rfl ?_⟩
    have s08 := s06.trans (s7.trans s8)
    have s18 := s16.trans (s7.trans s8)
    -- taken back
    refine ⟨_, rfl, t, _, _, _, rfl, rfl, atd s08, at_of (j := 0) rfl rfl, _, rfl, t, _, _, _, rfl, rfl, atd s08, at_of (j := 1) rfl rfl, ?_⟩
    refine ⟨_, rfl, _, rfl, t, _, _, _, rfl, rfl, atd s08, at_of (j := 0) rfl rfl, _, rfl, t, _, _, _, rfl, rfl, atd s08, at_of (j := 1) rfl rfl, c, rs, kss, k, a, b, rfl, tb.same s08, fine, by omega, bn, by omega, ?_⟩
    refine ⟨(by show 3 ≤ sizeLine; decide), fun z4 hz4 => ?_⟩
    obtain ⟨H9, e9, s9, f9⟩ := gen H8 hz4 (.tup (deedV3 (a, b, tieN kss a b)))
    have e9' : upd H8 z4 (.tup [.int (a : Nat), .int (b : Nat), .int (tieN kss a b)]) = H9 := e9
    rw [e9']
    clear e9 e9'
    have s09 := s08.trans s9
    have s19 := s18.trans s9
    have bk := back_ok fine ab bn ne al
    have bd := back_do fine ab bn (v := v)
    have zdt : Dt K H9 (.ref z4) (deedP (a, b, tieN kss a b)) := .tup f9 (.cons (.int _) (.cons (.int _) (.cons (.int _) .nil)))
    have len1 : 1 ≤ (setT kss b a v).length := by rw [setT_len]; exact m1
    have len40 : (setT kss b a v).length ≤ 40 := by rw [setT_len]; exact m40
    refine ⟨_, rfl, _, rfl, _, rfl, k, p, .ref z4, _, ps, _, rfl, k2, k9, u1'.same s19, f2, len1, len40, zdt, fun Ha sa => ?_⟩
    rw [bk]
    refine ⟨_, _, rfl, rfl, _, rfl, iteNS rfl ?_⟩
    have s0a := s09.trans sa
    have s1a := s19.trans sa
    refine ⟨_, rfl, _, rfl, _, rfl, k, p, .ref z4, _, ps, _, rfl, k2, k9, u1'.same s1a, f2, len1, len40, zdt.same sa, bk, fun p5 ps5 Hb sb u5 _ _ _ => ?_⟩
    rw [bd] at u5
    have s0b := s0a.trans sb
    have s1b := s1a.trans sb
    refine ⟨_, rfl, tabP kss, tabP kss, u5.dp, (tb.same s0b).dp, shaped_tab _, shaped_tab _, _, rfl, ?_⟩
    rw [eqv_tab, decide_eq_true rfl]
    refine iteF ?_
    -- a lot that has both
    have Gb := G.same s0b
    have lr : (rs.map V.ref).length = kss.length := by rw [List.length_map, tb.len]
    refine ⟨_, rfl, c, _, rfl, .inl (SqL.of (s0b _ _ tb.top)), (kss.length : Nat), by rw [lr], by omega, by omega, fun D hD => ?_⟩
    have Dg : D ≠ g := (Gb.ne hD).symm
    refine lc_it (walk_nat (n := ((kss.length : Nat) : Int).toNat)) (fun i H5 => But g Hb H5 ∧ Gen H5 g (n + 300 - 5 * i) ∧ ∃ l : List Nat, H5 D = some (.lst (natV l)) ∧ l.Pairwise (· < ·) ∧ (∀ x ∈ l, x < i) ∧ l.length ≤ i ∧ (a < i → a ∈ l) ∧ (b < i → b ∈ l))
      ⟨But.new hD, (Gb.new hD).less (by omega), [], upd_same, .nil, by simp, Nat.le_refl _, by omega, by omega⟩ (fun _ _ _ _ => trivial) ?_ ?_
    · rintro i y NX N5 hi ⟨b5, G5, l, h5, pw, bd', ll, ha, hb⟩ ⟨rfl, rfl⟩
      have ht5 := b5 _ _ (s0b _ _ ht) tg
      refine ⟨rfl, ?_⟩
      have next : ∀ (H7 : Hp), But g N5 H7 → Gen H7 g (n + 300 - 5 * (i + 1)) → H7 D = some (.lst (natV l)) → ∃ acc, H7 D = some (.lst acc) ∧ acc.length < sizeLine ∧ (But g Hb (upd H7 D (.lst (acc ++ [.int (i : Nat)]))) ∧ Gen (upd H7 D (.lst (acc ++ [.int (i : Nat)]))) g (n + 300 - 5 * (i + 1)) ∧ ∃ l : List Nat, (upd H7 D (.lst (acc ++ [.int (i : Nat)]))) D = some (.lst (natV l)) ∧ l.Pairwise (· < ·) ∧ (∀ x ∈ l, x < i + 1) ∧ l.length ≤ i + 1 ∧ (a < i + 1 → a ∈ l) ∧ (b < i + 1 → b ∈ l)) := fun H7 b7 G7 h7 => by
        refine ⟨_, h7, ?_, fun x o e nb => ?_, G7.other Dg, l ++ [i], ?_, ?_, ?_, ?_, ?_, ?_⟩
        · unfold natV
          rw [List.length_map]
          exact small1000 (by omega)
        · rw [upd_ne (ne_of_none e hD)]
          exact b7 _ _ (b5 _ _ e nb) nb
        · rw [upd_same]
          unfold natV
          rw [List.map_append]
          rfl
        · refine List.pairwise_append.mpr ⟨pw, List.pairwise_singleton .., fun x hx y hy => ?_⟩
          rw [List.mem_singleton] at hy
          subst hy
          exact bd' x hx
        · intro x hx
          rcases List.mem_append.mp hx with hx | hx
          · exact Nat.lt_succ_of_lt (bd' x hx)
          · rw [List.mem_singleton] at hx
            omega
        · rw [List.length_append]
          show l.length + 1 ≤ i + 1
          omega
        · intro h
          by_cases c : a = i
          · rw [List.mem_append, List.mem_singleton]
            exact .inr c
          · rw [List.mem_append]
            exact .inl (ha (by omega))
        · intro h
          by_cases c : b = i
          · rw [List.mem_append, List.mem_singleton]
            exact .inr c
          · rw [List.mem_append]
            exact .inl (hb (by omega))
      refine ⟨_, rfl, _, rfl, 2, rfl, t, _, rfl, SqT.of ht5, ?_, fun w hw => ?_⟩
      · rintro ⟨_, h2⟩
        rw [show HT.sIx (deedV3 (a, b, v)).length (deedV3 (a, b, v)).length (some 2) = min 2 3 from HT.sIx_nat _ _ 2] at h2
        cases h2
      · have ec : cutV (deedV3 (a, b, v)) none (some 2) = natV [a, b] := cut_to (xs := deedV3 (a, b, v)) (i := 2) (by show 2 ≤ 3; decide)
        rw [ec]
        obtain ⟨N7, e7, s7, f7⟩ := gen N5 hw (.tup (natV [a, b]))
        rw [e7]
        clear e7
        refine ⟨w, _, rfl, .inr (SqT.of f7), rfl, rfl, _, rfl, ?_⟩
        show ite ((inV (.int (i : Nat)) (natV [a, b])) = true) _ _
        rw [inV_nat]
        have h7 := s7 _ _ h5
        by_cases ci : i ∈ [a, b]
        · rw [decide_eq_true ci]
          exact iteT (iteT ⟨_, rfl, next N7 (.of s7) ((G5.same s7).less (by omega)) h7⟩)
        · rw [decide_eq_false ci]
          have ca : i ≠ a ∧ i ≠ b := by simpa using ci
          refine iteF ⟨_, rfl, g, 2, n + 300 - 5 * (i + 1), rfl, by decide, by decide, (G5.same s7).less (by omega), fun x N8 _ _ G8 b8 => ⟨rfl, _, rfl, ?_⟩⟩
          have h8 := b8 _ _ h7 Dg
          have b58 : But g N5 N8 := (But.of s7).trans b8
          refine ite2 (fun _ => ⟨_, rfl, next N8 b58 G8 h8⟩) (fun _ => ⟨b5.trans b58, G8, l, h8, pw, fun x hx => Nat.lt_succ_of_lt (bd' x hx), by omega, fun h => ha (by omega), fun h => hb (by omega)⟩)
    rintro N5 ⟨b5, G5, l, h5, pw, bd', ll, ha, hb⟩
    have al' : a ∈ l := ha (by omega)
    have bl' : b ∈ l := hb (by omega)
    have pg : p ≠ g := (G.ne np).symm
    have gp : g ∉ ps := notin_new G nr
    have tbN : Tab N5 c rs kss := (tb.same s0b).but b5 cg gr
    have upN : Tab N5 p ps (setT kss b a v) := (u1'.same s1b).but b5 pg gp
    have tN : N5 t = some (.tup (deedV3 (a, b, v))) := b5 _ _ (s0b _ _ ht) tg
    have bN : But g H N5 := (But.of s0b).trans b5
    have lot : Lot kss.length l := ⟨List.ne_nil_of_mem al', pw, fun x hx => by have := bd' x hx; omega⟩
    have lnd := nodup_up lot.up
    refine ⟨_, rfl, _, rfl, _, rfl, _, rfl, k, c, D, rs, kss, l, rfl, k2, k9, tbN, fine, m1, m40, h5, lot, fun w qs N6 s6' uw _ _ _ => ?_⟩
    obtain ⟨ia, hia, eia⟩ := place_of al'
    obtain ⟨ib, hib, eib⟩ := place_of bl'
    obtain ⟨zA, zA1, zA2, zA3⟩ := first_place lnd hia
    obtain ⟨zB, zB1, zB2, zB3⟩ := first_place lnd hib
    rw [eia] at zA2 zA3
    rw [eib] at zB2 zB3
    have iab : ia < ib := by
      rcases Nat.lt_or_ge ia ib with h | h
      · exact h
      · rcases Nat.eq_or_lt_of_le h with h | h
        · subst h
          omega
        · have := List.pairwise_iff_getElem.mp pw ib ia hib hia h
          omega
    have h6 := s6' _ _ h5
    have t6 := s6' _ _ tN
    have dl : Dp K N6 (.ref D) (.list ((nums l).map PyData.int)) := nat_dp h6
    refine ⟨_, rfl, .inl ⟨rfl, _, SqL.of h6⟩, _, rfl, t, _, _, _, rfl, rfl, SqT.of t6, at_of (j := 0) rfl rfl, D, _, .int (a : Nat), _, ia, zA, rfl, rfl, dl, .int _, shaped_row (nums l), rfl, zA1, zA2, zA3, ?_⟩
    refine ⟨_, rfl, .inl ⟨rfl, _, SqL.of h6⟩, _, rfl, t, _, _, _, rfl, rfl, SqT.of t6, at_of (j := 1) rfl rfl, D, _, .int (b : Nat), _, ib, zB, rfl, rfl, dl, .int _, shaped_row (nums l), rfl, zB1, zB2, zB3, ?_⟩
    refine ⟨_, rfl, t, _, _, _, rfl, rfl, SqT.of t6, at_of (j := 2) rfl rfl, (by show 3 ≤ sizeLine; decide), fun zz hzz => ?_⟩
    obtain ⟨N7, e7, s7', f7'⟩ := gen N6 hzz (.tup [.int (ia : Nat), .int (ib : Nat), .int v])
    rw [e7]
    clear e7
    have nl : (namedK kss l).length = l.length := named_len _ _
    have lmost : l.length ≤ 40 := Nat.le_trans lot.len.2 m40
    have l1 : 1 ≤ l.length := lot.len.1
    have okA : deedB k (namedK kss l) (.tuple [.int (ia : Nat), .int (ib : Nat), .int v]) = true := among_ok fine lnd lot.low (by rw [List.getElem?_eq_getElem hia, eia]) (by rw [List.getElem?_eq_getElem hib, eib]) iab v0 vk ne al
    refine ⟨k, w, .ref zz, _, qs, _, rfl, k2, k9, uw.same s7', named_fine fine lnd lot.low, by omega, by omega, .tup f7' (.cons (.int _) (.cons (.int _) (.cons (.int _) .nil))), fun N8 s8' => ?_⟩
    rw [okA]
    refine ⟨_, _, rfl, rfl, _, rfl, iteNS rfl ?_⟩
    have s58 := s6'.trans (s7'.trans s8')
    have up8 := upN.same s58
    have tb8 := tbN.same s58
    -- what is told may be changed
    have lps : ps.length = kss.length := by rw [up8.len, setT_len]
    refine ⟨_, rfl, p, rfl, ⟨_, SqL.of up8.top⟩, ?_⟩
    refine for_list (K := K) (a := p) (xs := ps.map V.ref) (fun i σ H' => ∃ y : Option V, σ = [some (.ref g), some (.int k), some (.ref c), some (.ref t), some (.ref p), some (.str (tabP kss).shown), some (.ref z4), some (.ref D), none, y] ∧ Gen H' g n ∧ Tab H' c rs kss ∧ H' t = some (.tup (deedV3 (a, b, v))) ∧ But g H H' ∧ H' p = some (.lst (ps.map V.ref)) ∧ ∀ r ∈ ps, ∃ ys, H' r = some (.lst ys) ∧ ys.length ≤ 100 + i)
      ⟨_, rfl, (G5.same s58).less (by omega), tb8, s58 _ _ tN, bN.trans (.of s58), up8.top, fun r hr' => by
        obtain ⟨i, hi⟩ := List.getElem?_of_mem hr'
        have il : i < (setT kss b a v).length := by rw [← up8.len]; exact (List.getElem?_eq_some_iff.mp hi).1
        refine ⟨_, up8.row i r _ hi (List.getElem?_eq_getElem il), ?_⟩
        rw [List.length_map]
        have := (f2 i _ (List.getElem?_eq_getElem il)).1
        rw [setT_len] at il
        omega⟩ (fun i σ H' _ z => by
        obtain ⟨_, _, _, _, _, _, h, _⟩ := z
        exact SqL.of h) ?_ ?_
    · rintro i y σ M1 hi ⟨y0, rfl, GM, tM, hM, bM, pM, rM⟩
      rw [List.getElem?_map] at hi
      cases er : ps[i]? with
      | none =>
        rw [er] at hi
        cases hi
      | some r =>
        rw [er] at hi
        cases hi
        have il := (List.getElem?_eq_some_iff.mp er).1
        have rm := List.mem_of_getElem? er
        obtain ⟨ys, hys, lys⟩ := rM r rm
        have rc : ∀ {x : Addr} {o : HO}, H x = some o → x ≠ r := fun e => ne_of_none e (nr r rm)
        refine ⟨_, rfl, .inl ⟨rfl, _, SqL.of hys⟩, r, _, _, rfl, rfl, hys, by exact small1000 (by omega), ?_⟩
        refine ⟨_, rfl, GM.other (fun z => gp (by rw [← z]; exact rm)), tM.upd (rc tb.top) (fun z => by
          obtain ⟨j, hj⟩ := List.getElem?_of_mem z
          have jl : j < kss.length := by rw [← tb.len]; exact (List.getElem?_eq_some_iff.mp hj).1
          exact rc (tb.row j r _ hj (List.getElem?_eq_getElem jl)) rfl), by rw [upd_ne (rc ht)]; exact hM, fun x o e nb => by rw [upd_ne (rc e)]; exact bM _ _ e nb, ?_, fun r2 hr2 => ?_⟩
        · rw [upd_ne (fun z => pn (by rw [z]; exact rm))]
          exact pM
        · by_cases c2 : r2 = r
          · subst c2
            refine ⟨_, upd_same, ?_⟩
            rw [List.length_append]
            show ys.length + 1 ≤ _
            omega
          · obtain ⟨zs, hzs, lzs⟩ := rM r2 hr2
            exact ⟨zs, by rw [upd_ne c2]; exact hzs, by omega⟩
    · rintro σ M1 ⟨y0, rfl, GM, tM, hM, bM, pM, rM⟩
      have tdM : Dt K M1 (.ref t) (deedP (a, b, v)) := .tup hM (.cons (.int _) (.cons (.int _) (.cons (.int _) .nil)))
      refine ⟨_, rfl, _, rfl, _, rfl, k, c, .ref t, _, rs, kss, rfl, k2, k9, tM, fine, m1, m40, tdM, hB, fun p6 ps6 M2 s9' u6 _ _ _ => ?_⟩
      refine ⟨_, rfl, _, rfl, c, t, rs, kss, k, a, b, v, rfl, tM.same s9', fine, m40, s9' _ _ hM, ab, bn, fun p7 ps7 M3 s10 u7 _ _ => ?_⟩
      have u6' : Tab M2 p6 ps6 (setT kss b a v) := u6
      refine ⟨tabP (setT kss b a v), tabP (setT kss b a v), (u6'.same s10).dp, u7.dp, shaped_tab _, shaped_tab _, _, rfl, ?_⟩
      rw [eqv_tab, decide_eq_true rfl]
      have sM := s9'.trans s10
      refine iteT ⟨_, rfl, .ref c, tabP kss, rfl, (tM.same sM).dt, fi1, fi2, fi3, _, rfl, rfl, ?_⟩
      rw [decide_eq_true rfl]
      exact q _ (bM.trans (.of sM)) (GM.same sM)
end
end K03

namespace GL
open PySem PySem.Spec PyProof.Rows L2
/-- each is some datum -/
def Items (K : PySem.W.Frag) (H : Hp) (ys : List V) : Prop := ∀ y ∈ ys, ∃ d, Dt K H y d
theorem Items.dts {K : PySem.W.Frag} {H : Hp} : ∀ {ys : List V}, Items K H ys → ∃ ds, Dts K H ys ds
  | [], _ => ⟨[], .nil⟩
  | y :: ys, h => by
    obtain ⟨d, hd⟩ := h y (List.mem_cons_self ..)
    obtain ⟨ds, hs⟩ := Items.dts (ys := ys) fun z hz => h z (List.mem_cons_of_mem _ hz)
    exact ⟨d :: ds, .cons hd hs⟩
theorem Items.same {K : PySem.W.Frag} {H H' : Hp} {ys : List V} (h : Items K H ys) (s : Same H H') : Items K H' ys := fun y hy => by
  obtain ⟨d, hd⟩ := h y hy
  exact ⟨d, hd.same s⟩
theorem Items.app {K : PySem.W.Frag} {H : Hp} {xs ys : List V} (a : Items K H xs) (b : Items K H ys) : Items K H (xs ++ ys) := fun y hy => by
  rcases List.mem_append.mp hy with h | h
  · exact a y h
  · exact b y h
theorem Items.cons {K : PySem.W.Frag} {H : Hp} {x : V} {ys : List V} (a : ∃ d, Dt K H x d) (b : Items K H ys) : Items K H (x :: ys) := fun y hy => by
  rcases List.mem_cons.mp hy with h | h
  · rw [h]; exact a
  · exact b y h
theorem Items.nil {K : PySem.W.Frag} {H : Hp} : Items K H [] := fun y hy => by cases hy
theorem Items.cut {K : PySem.W.Frag} {H : Hp} {xs : List V} (a : Items K H xs) (lo hi : Option Int) : Items K H (cutV xs lo hi) := fun y hy => by
  unfold cutV at hy
  exact a y (List.mem_of_mem_drop (List.mem_of_mem_take hy))
theorem cut_len (xs : List V) (lo hi : Option Int) : (cutV xs lo hi).length ≤ xs.length := by
  unfold cutV
  rw [List.length_take, List.length_drop]
  omega
/-- a datum whose lists are short -/
def Good (K : PySem.W.Frag) (H : Hp) (x : V) : Prop := ∃ d, Dt K H x d ∧ ∀ ds, d = .list ds → ds.length ≤ 100
theorem Good.same {K : PySem.W.Frag} {H H' : Hp} {x : V} (h : Good K H x) (s : Same H H') : Good K H' x := by
  obtain ⟨d, hd, l⟩ := h
  exact ⟨d, hd.same s, l⟩
theorem Good.list {K : PySem.W.Frag} {H : Hp} {p : Addr} {ys : List V} (h : H p = some (.lst ys)) (a : Items K H ys) (l : ys.length ≤ 100) : Good K H (.ref p) := by
  obtain ⟨ds, hs⟩ := a.dts
  exact ⟨.list ds, .lst h hs, fun es e => by
    injection e with e
    rw [← e, ← hs.length]
    exact l⟩
theorem Good.tup {K : PySem.W.Frag} {H : Hp} {p : Addr} {ys : List V} (h : H p = some (.tup ys)) (a : Items K H ys) : Good K H (.ref p) := by
  obtain ⟨ds, hs⟩ := a.dts
  exact ⟨.tuple ds, .tup h hs, fun es e => by cases e⟩
def stepK (k : Int) (s : List (List Int) × Bool) (d : PyData) : List (List Int) × Bool := (if s.2 && deedB k s.1 d then doD s.1 d else s.1, s.2 && deedB k s.1 d)
theorem step_false {k : Int} : ∀ {es : List PyData} {kss : List (List Int)}, (es.foldl (stepK k) (kss, false)).2 = false
  | [], _ => rfl
  | d :: es, kss => by
    show (es.foldl (stepK k) (stepK k (kss, false) d)).2 = false
    exact step_false
theorem step_road {k : Int} : ∀ {es : List PyData} {kss : List (List Int)} {i : Nat}, (es.foldl (stepK k) (kss, true)).2 = decide ((followK k kss es i).2 = i + es.length)
  | [], kss, i => by
    show true = decide (i = i + 0)
    simp
  | d :: es, kss, i => by
    show (es.foldl (stepK k) (stepK k (kss, true) d)).2 = _
    rw [follow_cons]
    unfold stepK
    cases h : deedB k kss d with
    | false =>
      show (es.foldl (stepK k) (kss, false)).2 = decide (i = i + (es.length + 1))
      rw [step_false, decide_eq_false (by omega)]
    | true =>
      show (es.foldl (stepK k) (doD kss d, true)).2 = _
      rw [step_road (i := i + 1), List.length_cons, if_pos rfl, show i + 1 + es.length = i + (es.length + 1) by omega]
theorem step_good {k : Int} {s : List (List Int) × Bool} {d : PyData} (f : Fine k s.1) : Fine k (stepK k s d).1 ∧ (stepK k s d).1.length = s.1.length := by
  unfold stepK
  cases h : (s.2 && deedB k s.1 d) with
  | false => exact ⟨f, rfl⟩
  | true =>
    rw [Bool.and_eq_true] at h
    have st := deed_step h.2
    exact ⟨st.fine f, st.len⟩
theorem follow_take {k : Int} : ∀ {ds : List PyData} {kss ks : List (List Int)} {i : Nat} (j : Nat), followK k kss ds i = (ks, i + ds.length) → j ≤ ds.length → (followK k kss (ds.take j) i).2 = i + j
  | ds, kss, ks, i, 0, _, _ => rfl
  | [], kss, ks, i, j + 1, _, h => by simp at h
  | d :: ds, kss, ks, i, j + 1, h, hj => by
    rw [follow_cons] at h
    rw [List.take_succ_cons, follow_cons]
    cases hx : deedB k kss d with
    | false =>
      rw [hx, if_neg (by decide)] at h
      have := congrArg (·.2) h
      simp at this
    | true =>
      rw [hx, if_pos rfl] at h
      rw [if_pos rfl, follow_take (ks := ks) j (by rw [h, List.length_cons]; congr 1; omega) (by simpa using hj)]
      omega
theorem follow_first {k : Int} {ds : List PyData} {d : PyData} {kss ks : List (List Int)} (h : followK k kss (d :: ds) 0 = (ks, (d :: ds).length)) : deedB k kss d = true := by
  rw [follow_cons] at h
  cases hx : deedB k kss d with
  | true => rfl
  | false =>
    rw [hx, if_neg (by decide)] at h
    have := congrArg (·.2) h
    simp at this
/-- a company and a road, as data -/
def withRoad (kss : List (List Int)) (ts : List DeedT) : PyData := .list [tabP kss, .list (ts.map fun t => deedP t.2)]
theorem road_fit {k : Int} {kss : List (List Int)} {ts : List DeedT} (f : Fine k kss) (hk : k ≤ 9) (n : kss.length ≤ 40) (l : ts.length ≤ 40) (b : ∀ t ∈ ts, t.2.1 < 100 ∧ t.2.2.1 < 100 ∧ t.2.2.2.natAbs < 100) : (withRoad kss ts).showable = true ∧ (withRoad kss ts).shown.length ≤ sizeLine ∧ (withRoad kss ts).depth ≤ 60 := by
  have one : Fit 200000 3 (tabP kss) := (Fit.list (B := 4500) (d := 2) (n := 40) (fun e he => by
    obtain ⟨ks, hks, rfl⟩ := List.mem_map.mp he
    obtain ⟨i, hi, e⟩ := List.getElem_of_mem hks
    obtain ⟨a, b⟩ := f i ks (by rw [List.getElem?_eq_getElem hi, e])
    exact (Fit.ints (n := 40) (by omega) fun z hz => by have := b z hz; omega).more (by decide) (Nat.le_refl _)) (by rw [List.length_map]; exact n)).more (by decide) (Nat.le_refl _)
  have two : Fit 200000 3 (.list (ts.map fun t => deedP t.2)) := (Fit.list (B := 400) (d := 2) (n := 40) (fun e he => by
    obtain ⟨t, ht, rfl⟩ := List.mem_map.mp he
    obtain ⟨b1, b2, b3⟩ := b t ht
    exact (Fit.tuple (B := 110) (d := 1) (n := 3) (fun e he => by
      simp at he
      rcases he with rfl | rfl | rfl
      · exact Fit.int (by show ((t.2.1 : Nat) : Int).natAbs < 2 ^ 100; omega)
      · exact Fit.int (by show ((t.2.2.1 : Nat) : Int).natAbs < 2 ^ 100; omega)
      · exact Fit.int (by omega)) (Nat.le_refl _)).more (by decide) (Nat.le_refl _)) (by rw [List.length_map]; exact l)).more (by decide) (Nat.le_refl _)
  exact (Fit.list (B := 200000) (d := 3) (n := 2) (fun e he => by
    rcases List.mem_cons.mp he with rfl | he
    · exact one
    · rw [List.mem_singleton] at he
      subst he
      exact two) (Nat.le_refl _)).fits (by decide) (by decide)
def spRoadsRight : Sp := fun vs H Q _ => ∃ (g : Addr) (k : Int) (c : Addr) (n : Nat) (rs : List Addr) (kss : List (List Int)), vs = [.ref g, .int k, .ref c] ∧ 2 ≤ k ∧ k ≤ 9 ∧ Gen H g (n + 200) ∧ Tab H c rs kss ∧ Fine k kss ∧ 1 ≤ kss.length ∧ kss.length ≤ 40 ∧ c ≠ g ∧ g ∉ rs ∧ ∀ H', But g H H' → Q (.bl true) H'
theorem Deeds.items {K : PySem.W.Frag} {H0 H : Hp} {a : Addr} {ts : List DeedT} (R : Deeds H0 H a ts) : Items K H (ts.map fun t => V.ref t.1) := fun y hy => by
  obtain ⟨t, ht, rfl⟩ := List.mem_map.mp hy
  exact ⟨_, .tup (R.row t ht) (.cons (.int _) (.cons (.int _) (.cons (.int _) .nil)))⟩
theorem follow_bound {k : Int} : ∀ {ts : List DeedT} {kss ks : List (List Int)} {i : Nat}, followK k kss (ts.map fun t => deedP t.2) i = (ks, i + ts.length) → ∀ t ∈ ts, t.2.1 < kss.length ∧ t.2.2.1 < kss.length ∧ 0 ≤ t.2.2.2 ∧ t.2.2.2 < k
  | [], _, _, _, _ => fun t ht => by cases ht
  | u :: ts, kss, ks, i, h => by
    rw [List.map_cons, follow_cons] at h
    cases hx : deedB k kss (deedP u.2) with
    | false =>
      rw [hx, if_neg (by decide)] at h
      have := congrArg (·.2) h
      simp at this
    | true =>
      rw [hx, if_pos rfl] at h
      have st := deed_step hx
      have ih := follow_bound (ts := ts) (kss := doD kss (deedP u.2)) (ks := ks) (i := i + 1) (by rw [h, List.length_cons]; congr 1; omega)
      intro t ht
      rcases List.mem_cons.mp ht with rfl | ht
      · obtain ⟨a, b, v, ed, ab, bn, v0, vk, _, _⟩ := deed_nat hx
        unfold deedP at ed
        injection ed with ed
        simp at ed
        omega
      · have := ih t ht
        rw [st.len] at this
        exact this
end GL

namespace K03
open PySem PySem.Spec PyProof.Rows
open L2
open GL
def rTupL (K : PySem.W.Frag) : List V → Hp → VK → Prop := fun xs H Q => ∃ p ys, xs = [.ref p] ∧ SqL K H p ys ∧ ∀ l, H l = none → Q (.ref l) (upd H l (.tup ys))
theorem call_tupL {X : Cx} : CallR X (.type "tuple") (rTupL X.K) := fun pins s σ H xs us Q I r ⟨p, ys, e, a, b⟩ => call_tuple_of pins s σ H xs us Q I r ⟨p, ys, e, .inl ⟨a, b⟩⟩
def Goods (K : PySem.W.Frag) (H : Hp) (xs : List V) : Prop := ∀ x ∈ xs, Good K H x
theorem Goods.nil {K : PySem.W.Frag} {H : Hp} : Goods K H [] := fun x hx => by cases hx
theorem Goods.cons {K : PySem.W.Frag} {H : Hp} {x : V} {xs : List V} (a : Good K H x) (b : Goods K H xs) : Goods K H (x :: xs) := fun y hy => by
  rcases List.mem_cons.mp hy with h | h
  · rw [h]; exact a
  · exact b y h
theorem Good.non {K : PySem.W.Frag} {H : Hp} : Good K H .non := ⟨.none, .non, fun _ e => by cases e⟩
theorem Good.int {K : PySem.W.Frag} {H : Hp} {i : Int} : Good K H (.int i) := ⟨.int i, .int i, fun _ e => by cases e⟩
theorem Good.dict {K : PySem.W.Frag} {H : Hp} {p : Addr} (h : H p = some (.dK [])) : Good K H (.ref p) := ⟨.dict [], .dct h, fun _ e => by cases e⟩
theorem Items.rev {K : PySem.W.Frag} {H : Hp} {xs : List V} (a : Items K H xs) : Items K H xs.reverse := fun y hy => a y (List.mem_reverse.mp hy)
theorem Items.list {K : PySem.W.Frag} {H : Hp} {p : Addr} {ys : List V} (h : H p = some (.lst ys)) (a : Items K H ys) : ∃ d, Dt K H (.ref p) d := by
  obtain ⟨ds, hs⟩ := a.dts
  exact ⟨_, .lst h hs⟩
theorem dts_take {K : PySem.W.Frag} {H : Hp} : ∀ {xs : List V} {ds : List PyData}, Dts K H xs ds → ∀ n, Dts K H (xs.take n) (ds.take n)
  | _, _, .nil, n => by rw [List.take_nil, List.take_nil]; exact .nil
  | _, _, .cons h t, 0 => .nil
  | _, _, .cons h t, n + 1 => by
    rw [List.take_succ_cons, List.take_succ_cons]
    exact .cons h (dts_take t n)
section
variable {P : Program} {w : World} {K : PySem.W.Frag} {mg : Str → Option Value} {base : Heap}
abbrev sRoadsRight : Stmt := topS 62
abbrev nRoadsRight : List Str := ["_law_generator_here", "_law_kinds", "_law_company_here", "_law_road_here", "_law_there", "_law_kept", "_law_at", "_law_bents", "_law_value", "_law_due", "_law_here", "_law_deed", "_law_way", "_law_told", "_law_row", "_law_back", "_law_one", "_law_other", "_law_kind"]
theorem scRoadsRight : FnScope nRoadsRight ["_law_generator_here", "_law_kinds", "_law_company_here"] (defScope sRoadsRight) := ⟨rfl, rfl, rfl, by decide +kernel, rfl, by decide +kernel, by decide +kernel⟩
theorem ok_roadsRight {f : Addr} {fd : FuncData} (F : Fun K "_law_roads_right" "_law_roads_right" sRoadsRight f fd) (T : Bi mg) (Uled : Use P w K mg base "led" ["kinds", "company", "road"] (spLedP K) 7) (UledK : UseK P w K mg base "led" ["kinds", "company", "road"] ["road", "company", "kinds"] gQ210 gQV210 (spLedP K) 7) (UisroadK : UseK P w K mg base "is_road" ["kinds", "company", "value"] ["value", "company", "kinds"] gQ210 gQV210 (spIsRoad K) 7) (Uisroad : Use P w K mg base "is_road" ["kinds", "company", "value"] (spIsRoad K) 7) (ULrandom : Use P w K mg base "_law_random" ["_law_generator_here", "_law_bound"] spRandom 2) (ULyes : Use P w K mg base "_law_yes" ["_law_told", "_law_due"] spYes 1) (ULtie : Use P w K mg base "_law_tie" ["_law_company_here", "_law_one", "_law_other"] spTie 1) (ULretied : Use P w K mg base "_law_retied" ["_law_company_here", "_law_deed"] spRetied 1) (ULroad : Use P w K mg base "_law_road" ["_law_generator_here", "_law_kinds", "_law_company_here", "_law_most"] spRoadL 4) (ULisdeed : Use P w K mg base "_law_is_deed" ["_law_kinds", "_law_company_here", "_law_value"] (spIsDeedL K) 3) : FnG P w K mg base CX0 8 f fd ["_law_generator_here", "_law_kinds", "_law_company_here"] spRoadsRight := by
  obtain ⟨fUisroadK, fdUisroadK, FUisroadK, mUisroadK, kUisroadK, bUisroadK⟩ := UisroadK
  obtain ⟨fUledK, fdUledK, FUledK, mUledK, kUledK, bUledK⟩ := UledK
  refine FnG.mk' F scRoadsRight (fun vs H Q E h => ?_) (fun cdv A outer s H vs Q E hgd hr h => ?_)
  · obtain ⟨g, k, c, n, rs, kss, rfl, _⟩ := h
    rfl
  · obtain ⟨g, k, c, n, rs, kss, rfl, k2, k9, G, tb, fine, m1, m40, cg, gr, q⟩ := h
    have hgd' : (A.deeper (envOfC "_law_roads_right" (defScope sRoadsRight) s.heap.objs.size f cdv)).guards = some [] := hgd
    refine ⟨_, (pss_cons (ps_asg (pe_use ULroad (hr.mono (by decide)) (by rfl) (pa_cons (pv 0) (pa_cons (pv 1) (pa_cons (pv 2) (pa_cons (pe_use ULrandom (hr.mono (by decide)) (by rfl) (pa_cons (pv 0) (pa_cons pe_int pa_nil))) pa_nil)))))
          (pg_tup rfl (pgs_cons (pg_name (i := 3) scRoadsRight.nd rfl (Or.inl rfl)) (pgs_cons (pg_name (i := 4) scRoadsRight.nd rfl (Or.inl rfl)) pgs_nil))))
      (pss_cons (ps_set (i := 5) scRoadsRight.nd rfl (Or.inl rfl) (pe_callB (call_repD hgd' hr.units) (by rfl) T.repr (by decide +kernel) (pa_cons (pe_lst (pa_cons (pv 2) (pa_cons (pv 3) pa_nil))) pa_nil)))
      (pss_cons (ps_if (PW.pt (pw_or (pt_cmpR (op_neD hr.units) (pe_use Uled hr (by rfl) (pa_cons (pv 1) (pa_cons (pv 2) (pa_cons (pv 3) pa_nil)))) (pv 4) (nomark _)) (pw_or1 (pt_cmpR (op_neD hr.units) (pe_kws FUledK hr (by rfl) mUledK kUledK bUledK pass0 (pk_cons (pv 3) (pk_cons (pv 2) (pk_cons (pv 1) pk_nil)))) (pv 4) (nomark _)))))
        (pss_one (ps_ret pe_bl)) pss_nil)
      (pss_cons (ps_set (i := 6) scRoadsRight.nd rfl (Or.inl rfl) (pe_use ULrandom (hr.mono (by decide)) (by rfl) (pa_cons (pv 0) (pa_cons (pe_op op_add (pe_callB call_len_seq (by rfl) T.len PySem.boot_len (pa_cons (pv 3) pa_nil)) pe_int) pa_nil))))
      (pss_cons (ps_set (i := 7) scRoadsRight.nd rfl (Or.inl rfl) (pe_lst (pa_cons (pv 3) (pa_cons (pe_callTy call_tupL (by rfl) T.tuple (by decide +kernel) (pa_cons (pv 3) pa_nil)) (pa_cons pe_non (pa_cons (pe_revB (pv 3)) (pa_cons (pe_op op_cat (pe_slice sl_list (pv 3) po_none (po_some (pv 6))) (pe_slice sl_list (pv 3) (po_some (pe_op op_add (pv 6) pe_int)) po_none)) (pa_cons (pe_op op_cat (pv 3) (pv 3)) (pa_cons pe_int pa_nil)))))))))
      (pss_cons (ps_set (i := 7) scRoadsRight.nd rfl (Or.inl rfl) (pe_op op_cat (pv 7) (pe_lst (pa_cons (pe_op op_cat (pe_op op_cat (pe_slice sl_list (pv 3) po_none (po_some (pv 6))) (pe_lst (pa_cons pe_non pa_nil))) (pe_slice sl_list (pv 3) (po_some (pv 6)) po_none)) (pa_cons (pe_op op_cat (pe_op op_cat (pe_slice sl_list (pv 3) po_none (po_some (pv 6))) (pe_lst (pa_cons (pe_tup (pa_cons pe_int (pa_cons pe_int (pa_cons pe_int pa_nil)))) pa_nil))) (pe_slice sl_list (pv 3) (po_some (pv 6)) po_none)) (pa_cons (pe_lst (pa_cons (pv 3) pa_nil)) (pa_cons pe_dnewK pa_nil)))))))
      (pss_cons (ps_set (i := 7) scRoadsRight.nd rfl (Or.inl rfl) (pe_op op_cat (pv 7) (pe_lst (pa_cons (pe_op op_cat (pv 3) (pe_lst (pa_cons (pe_tup (pa_cons pe_int (pa_cons pe_int (pa_cons pe_int pa_nil)))) pa_nil))) (pa_cons (pe_lst pa_nil) pa_nil)))))
      (pss_cons (ps_for PassesOwn.never rfl (pi_list (pv 7)) (pg_name (i := 8) scRoadsRight.nd rfl (Or.inl rfl))
        (pss_cons (ps_par (i := 9) (j := 10) rfl scRoadsRight.nd rfl rfl (by decide) rfl rfl (pa_cons (pe_callB call_isi (by rfl) T.isinstance (by decide +kernel) (pa_cons (pv 8) (pa_cons (pe_bltn (v := .ty "list") (by rfl) T.list (by decide +kernel) rfl) pa_nil))) (pa_cons (pv 2) pa_nil)) (by rfl))
        (pss_cons (ps_for PassesOwn.never rfl (pi_list (pe_ifExp (pt_val (pe_callB call_isi (by rfl) T.isinstance (by decide +kernel) (pa_cons (pv 8) (pa_cons (pe_bltn (v := .ty "list") (by rfl) T.list (by decide +kernel) rfl) pa_nil)))) (pv 8) (pe_lst pa_nil))) (pg_name (i := 11) scRoadsRight.nd rfl (Or.inl rfl))
          (pss_cons (ps_set (i := 9) scRoadsRight.nd rfl (Or.inl rfl) (pe_and (pv 9) (pe_one (pe_use ULisdeed (hr.mono (by decide)) (by rfl) (pa_cons (pv 1) (pa_cons (pv 10) (pa_cons (pv 11) pa_nil)))))))
          (pss_one (ps_set (i := 10) scRoadsRight.nd rfl (Or.inl rfl) (pe_ifExp (pt_val (pv 9)) (pe_use ULretied (hr.mono (by decide)) (by rfl) (pa_cons (pv 10) (pa_cons (pv 11) pa_nil))) (pv 10))))))
        (pss_cons (ps_if (pt_not (pt_val (pe_use ULyes (hr.mono (by decide)) (by rfl) (pa_cons (pe_use Uisroad hr (by rfl) (pa_cons (pv 1) (pa_cons (pv 2) (pa_cons (pv 8) pa_nil)))) (pa_cons (pv 9) pa_nil)))))
          (pss_one (ps_ret pe_bl)) pss_nil)
        (pss_one (ps_if (pt_not (pt_val (pe_use ULyes (hr.mono (by decide)) (by rfl) (pa_cons (pe_kws FUisroadK hr (by rfl) mUisroadK kUisroadK bUisroadK pass0 (pk_cons (pv 8) (pk_cons (pv 2) (pk_cons (pv 1) pk_nil)))) (pa_cons (pv 9) pa_nil)))))
          (pss_one (ps_ret pe_bl)) pss_nil))))))
      (pss_cons (ps_for PassesOwn.never rfl (pi_list (pe_lst (pa_cons (pv 3) (pa_cons (pe_slice sl_list (pv 3) po_none (po_some pe_int)) (pa_cons (pe_lst pa_nil) pa_nil))))) (pg_name (i := 12) scRoadsRight.nd rfl (Or.inl rfl))
        (pss_cons (ps_set (i := 13) scRoadsRight.nd rfl (Or.inl rfl) (pe_use Uled hr (by rfl) (pa_cons (pv 1) (pa_cons (pv 2) (pa_cons (pv 12) pa_nil)))))
        (pss_cons (ps_for PassesOwn.never rfl (pi_list (pv 13)) (pg_name (i := 14) scRoadsRight.nd rfl (Or.inl rfl))
          (pss_one (ps_expr (pe_bm PySem.F.plainAttrs_list PySem.F.slot_list_append PySem.F.type_list_append mt_append (pv 14) (pa_cons pe_non pa_nil)))))
        (pss_cons (ps_expr (pe_bm PySem.F.plainAttrs_list PySem.F.slot_list_append PySem.F.type_list_append mt_append (pv 13) (pa_cons pe_non pa_nil)))
        (pss_one (ps_if (pt_cmpR op_ne (pe_callB (call_repD hgd' hr.units) (by rfl) T.repr (by decide +kernel) (pa_cons (pe_lst (pa_cons (pv 2) (pa_cons (pv 3) pa_nil))) pa_nil)) (pv 5) (nomark _))
          (pss_one (ps_ret pe_bl)) pss_nil))))))
      (pss_cons (ps_setLc (i := 15) (own := [("_law_one", 16), ("_law_other", 17), ("_law_kind", 18)]) (g := (gTup K 3 (gCons (gName 16) (gCons (gName 17) (gCons (gName 18) gNil))))) (tt := tYes) (te := (tTup (tCons (tVar 16) (tCons (tVar 17) (tCons (tCall spTie [] E0 (tCons (tVar 2) (tCons (tVar 16) (tCons (tVar 17) tNil)))) tNil))))) rfl scRoadsRight.nd rfl rfl (sw_true rfl rfl rfl (by decide +kernel)) (pi_list (pe_slice sl_list (pv 3) po_none (po_some pe_int)))
          (blkOk_by (N := nRoadsRight) (sc := (defScope sRoadsRight)) (by decide +kernel)) (fun _ _ _ _ _ => (pg_tup rfl (pgs_cons (pg_name (i := 16) scRoadsRight.nd rfl (Or.inl rfl)) (pgs_cons (pg_name (i := 17) scRoadsRight.nd rfl (Or.inl rfl)) (pgs_cons (pg_name (i := 18) scRoadsRight.nd rfl (Or.inl rfl)) pgs_nil))))) (fun _ _ _ _ _ => by exact pts_nil)
          (fun _ _ _ _ _ => by exact (pe_tup (pa_cons (pv 16) (pa_cons (pv 17) (pa_cons (pe_use ULtie (hr.mono (by decide)) (by rfl) (pa_cons (pv 2) (pa_cons (pv 16) (pa_cons (pv 17) pa_nil)))) pa_nil))))))
      (pss_cons (ps_if (PW.pt (pw_and (pt_cmpR (op_neNil hr.units) (pv 3) (pe_lst pa_nil) (nomark _)) (pw_and1 (pt_cmpR (op_neD hr.units) (pe_use Uled hr (by rfl) (pa_cons (pv 1) (pa_cons (pv 2) (pa_cons (pe_op op_cat (pe_slice sl_list (pv 3) po_none (po_some pe_int)) (pv 15)) pa_nil)))) (pv 2) (nomark _)))))
        (pss_one (ps_ret pe_bl)) pss_nil)
      (pss_one (ps_ret (pe_cmpR op_eq (pe_callB (call_repD hgd' hr.units) (by rfl) T.repr (by decide +kernel) (pa_cons (pe_lst (pa_cons (pv 2) (pa_cons (pv 3) pa_nil))) pa_nil)) (pv 5) (nomark _))))))))))))))), ?_⟩
    obtain ⟨fi1, fi2, fi3⟩ := tab_fits fine k9 m40
    refine ⟨_, rfl, _, rfl, _, rfl, _, rfl, g, 13, n + 195, rfl, by decide, by decide, G.less (by omega), fun x H1 x0 x13 G1 b1 => ?_⟩
    obtain ⟨m, rfl⟩ : ∃ m : Nat, x = (m : Int) := ⟨x.toNat, by omega⟩
    have tb1 := tb.but b1 cg gr
    refine ⟨g, k, c, m, n + 100, rs, kss, rfl, k2, k9, by omega, G1.less (by omega), tb1, fine, m40, cg, gr, fun T R p ts ps ks H2 b2 G2 hT D2 nR lt u2 pg gp fo => ?_⟩
    have tb2 := tb1.but b2 cg gr
    refine ⟨T, _, rfl, SqT.of hT, rfl, _, _, rfl, _, _, rfl, rfl, ?_⟩
    have lt40 : ts.length ≤ 40 := by omega
    have bnd := follow_bound (i := 0) (ks := ks) (by rw [Nat.zero_add]; exact fo)
    obtain ⟨r1, r2, r3⟩ := road_fit (ts := ts) fine k9 m40 lt40 (fun t ht => by have := bnd t ht; omega)
    have Rg : R ≠ g := (G1.ne nR).symm
    have lx : (ts.map fun t => V.ref t.1).length = ts.length := List.length_map ..
    have dR : ∀ {H'}, Same H2 H' → Dt K H' (.ref R) (.list (ts.map fun t => deedP t.2)) := fun s => by
      have := (D2.same s).dt (K := K)
      rw [List.map_map] at this
      exact this
    refine ⟨_, rfl, _, rfl, (by show 2 ≤ sizeLine; decide), fun z0 hz0 => ?_⟩
    obtain ⟨H3, e3, s3, f3⟩ := gen H2 hz0 (.lst [.ref c, .ref R])
    rw [e3]
    clear e3
    refine ⟨.ref z0, withRoad kss ts, rfl, .lst f3 (.cons (tb2.same s3).dt (.cons (dR s3) .nil)), r1, r2, r3, ?_⟩
    have dsR : ∀ {H'}, Same H2 H' → Dts K H' (ts.map fun t => V.ref t.1) (ts.map fun t => deedP t.2) := fun s => by
      have := dR s
      cases this with
      | lst h h2 =>
        have e := (s _ _ D2.top).symm.trans h
        cases e
        exact h2
    have fo2 : (followK k kss (ts.map fun t => deedP t.2) 0).2 = (ts.map fun t => deedP t.2).length := by rw [fo, List.length_map]
    have fo1 : (followK k kss (ts.map fun t => deedP t.2) 0).1 = ks := by rw [fo]
    refine ⟨_, rfl, _, rfl, _, rfl, k, c, R, rs, kss, _, _, rfl, k2, k9, tb2.same s3, fine, m1, m40, s3 _ _ D2.top, dsR s3, by rw [lx]; omega, fo2, fun p4 ps4 H4 s4 u4 _ _ _ => ?_⟩
    rw [fo1] at u4
    have s24 := s3.trans s4
    refine ⟨_, rfl, tabP ks, tabP ks, u4.dp, (u2.same s24).dp, shaped_tab _, shaped_tab _, _, rfl, ?_⟩
    rw [eqv_tab, decide_eq_true rfl]
    refine iteF ?_
    refine ⟨_, rfl, _, rfl, _, rfl, k, c, R, rs, kss, _, _, rfl, k2, k9, tb2.same s24, fine, m1, m40, s24 _ _ D2.top, dsR s24, by rw [lx]; omega, fo2, fun p5 ps5 H5 s5 u5 _ _ _ => ?_⟩
    rw [fo1] at u5
    have s25 := s24.trans s5
    refine ⟨_, rfl, tabP ks, tabP ks, u5.dp, (u2.same s25).dp, shaped_tab _, shaped_tab _, _, rfl, ?_⟩
    rw [eqv_tab, decide_eq_true rfl]
    refine iteF ?_
    -- the place
    have G5 := G2.same s25
    refine ⟨_, rfl, _, rfl, R, _, rfl, .inl (SqL.of (s25 _ _ D2.top)), _, _, rfl, rfl, g, _, n, rfl, ?_, ?_, G5.less (by omega), fun y H6 y0 y1 G6 b6 => ?_⟩
    · rw [lx]
      omega
    · rw [lx]
      omega
    obtain ⟨at', rfl⟩ : ∃ a : Nat, y = (a : Int) := ⟨y.toNat, by omega⟩
    rw [lx] at y1
    have b26 : But g H2 H6 := (But.of s25).trans b6
    have tb6 := tb2.but b26 cg gr
    have D6 : Deeds H1 H6 R ts := ⟨b26 _ _ D2.top Rg, fun t ht => b26 _ _ (D2.row t ht) (G1.ne (D2.new t ht)).symm, D2.new⟩
    have bN : But g H H6 := b1.trans (b2.trans b26)
    clear b26 b6 G5 s25 s24 s5 s4 s3 u4 u5
    obtain ⟨X, hX⟩ : ∃ X, (ts.map fun t => V.ref t.1) = X := ⟨_, rfl⟩
    have DT := D6.top
    have IX : Items K H6 X := by rw [← hX]; exact D6.items
    have lX : X.length ≤ 12 := by rw [← hX, lx]; omega
    have DD := D6
    have DR : Dts K H6 X (ts.map fun t => deedP t.2) := by
      have := D6.dt (K := K)
      rw [List.map_map] at this
      cases this with
      | lst h h2 =>
        have e := D6.top.symm.trans h
        cases e
        rw [← hX]
        exact h2
    rw [hX] at DT
    have c1 := cut_len X none (some (at' : Int))
    have c2 := cut_len X (some ((at' : Int) + 1)) none
    have c3 := cut_len X (some (at' : Int)) none
    refine ⟨_, rfl, _, rfl, R, _, rfl, (SqL.of ((Same.refl _) _ _ DT)), fun qa1 za1 => ?_⟩
    obtain ⟨Ja1, ea1, va1, fa1⟩ := gen H6 za1 (.tup X)
    rw [ea1]
    clear ea1
    refine ⟨_, rfl, R, _, rfl, (SqL.of (va1 _ _ DT)), fun qa2 za2 => ?_⟩
    obtain ⟨Ja2, ea2, va2, fa2⟩ := gen Ja1 za2 (.lst X.reverse)
    rw [ea2]
    clear ea2
    refine ⟨_, rfl, _, rfl, _, rfl, R, _, rfl, (SqL.of ((va1.trans va2) _ _ DT)), fun qa3 za3 => ?_⟩
    obtain ⟨Ja3, ea3, va3, fa3⟩ := gen Ja2 za3 (.lst (cutV X none (some (at' : Int))))
    rw [ea3]
    clear ea3
    refine ⟨_, rfl, _, rfl, _, _, rfl, rfl, _, rfl, R, _, rfl, (SqL.of ((va1.trans (va2.trans va3)) _ _ DT)), fun qa4 za4 => ?_⟩
    obtain ⟨Ja4, ea4, va4, fa4⟩ := gen Ja3 za4 (.lst (cutV X (some ((at' : Int) + 1)) none))
    rw [ea4]
    clear ea4
    refine ⟨qa3, qa4, _, _, rfl, rfl, (va4 _ _ fa3), ((Same.refl _) _ _ fa4), ?_, fun qa5 za5 => ?_⟩
    · clear r1 r2 r3 fi1 fi2 fi3
      refine Nat.le_of_lt (small1000 ?_)
      (try simp only [List.length_append, List.length_cons, List.length_nil, Nat.zero_add])
      omega
    obtain ⟨Ja5, ea5, va5, fa5⟩ := gen Ja4 za5 (.lst (cutV X none (some (at' : Int)) ++ cutV X (some ((at' : Int) + 1)) none))
    rw [ea5]
    clear ea5
    refine ⟨_, rfl, _, rfl, R, R, _, _, rfl, rfl, ((va1.trans (va2.trans (va3.trans (va4.trans va5)))) _ _ DT), ((va1.trans (va2.trans (va3.trans (va4.trans va5)))) _ _ DT), ?_, fun qa6 za6 => ?_⟩
    · clear r1 r2 r3 fi1 fi2 fi3
      refine Nat.le_of_lt (small1000 ?_)
      (try simp only [List.length_append, List.length_cons, List.length_nil, Nat.zero_add])
      omega
    obtain ⟨Ja6, ea6, va6, fa6⟩ := gen Ja5 za6 (.lst (X ++ X))
    rw [ea6]
    clear ea6
    refine ⟨(by show 7 ≤ sizeLine; decide), fun ql1 zl1 => ?_⟩
    obtain ⟨Jl1, el1, vl1, fl1⟩ := gen Ja6 zl1 (.lst [.ref R, .ref qa1, .non, .ref qa2, .ref qa5, .ref qa6, .int 7])
    rw [el1]
    clear el1
    refine ⟨_, rfl, _, rfl, _, rfl, _, rfl, R, _, rfl, (SqL.of ((va1.trans (va2.trans (va3.trans (va4.trans (va5.trans (va6.trans vl1)))))) _ _ DT)), fun qb1 zb1 => ?_⟩
    obtain ⟨Jb1, eb1, vb1, fb1⟩ := gen Jl1 zb1 (.lst (cutV X none (some (at' : Int))))
    rw [eb1]
    clear eb1
    refine ⟨one_le, fun qb2 zb2 => ?_⟩
    obtain ⟨Jb2, eb2, vb2, fb2⟩ := gen Jb1 zb2 (.lst [.non])
    rw [eb2]
    clear eb2
    refine ⟨qb1, qb2, _, _, rfl, rfl, (vb2 _ _ fb1), ((Same.refl _) _ _ fb2), ?_, fun qb3 zb3 => ?_⟩
    · clear r1 r2 r3 fi1 fi2 fi3
      refine Nat.le_of_lt (small1000 ?_)
      (try simp only [List.length_append, List.length_cons, List.length_nil, Nat.zero_add])
      omega
    obtain ⟨Jb3, eb3, vb3, fb3⟩ := gen Jb2 zb3 (.lst (cutV X none (some (at' : Int)) ++ [.non]))
    rw [eb3]
    clear eb3
    refine ⟨_, rfl, _, rfl, _, rfl, R, _, rfl, (SqL.of ((va1.trans (va2.trans (va3.trans (va4.trans (va5.trans (va6.trans (vl1.trans (vb1.trans (vb2.trans vb3))))))))) _ _ DT)), fun qb4 zb4 => ?_⟩
    obtain ⟨Jb4, eb4, vb4, fb4⟩ := gen Jb3 zb4 (.lst (cutV X (some (at' : Int)) none))
    rw [eb4]
    clear eb4
    refine ⟨qb3, qb4, _, _, rfl, rfl, (vb4 _ _ fb3), ((Same.refl _) _ _ fb4), ?_, fun qb5 zb5 => ?_⟩
    · clear r1 r2 r3 fi1 fi2 fi3
      refine Nat.le_of_lt (small1000 ?_)
      (try simp only [List.length_append, List.length_cons, List.length_nil, Nat.zero_add])
      omega
    obtain ⟨Jb5, eb5, vb5, fb5⟩ := gen Jb4 zb5 (.lst ((cutV X none (some (at' : Int)) ++ [.non]) ++ cutV X (some (at' : Int)) none))
    rw [eb5]
    clear eb5
    refine ⟨_, rfl, _, rfl, _, rfl, R, _, rfl, (SqL.of ((va1.trans (va2.trans (va3.trans (va4.trans (va5.trans (va6.trans (vl1.trans (vb1.trans (vb2.trans (vb3.trans (vb4.trans vb5))))))))))) _ _ DT)), fun qd1 zd1 => ?_⟩
    obtain ⟨Jd1, ed1, vd1, fd1⟩ := gen Jb5 zd1 (.lst (cutV X none (some (at' : Int))))
    rw [ed1]
    clear ed1
    refine ⟨(by show 3 ≤ sizeLine; decide), fun qd2 zd2 => ?_⟩
    obtain ⟨Jd2, ed2, vd2, fd2⟩ := gen Jd1 zd2 (.tup [.int 0, .int 1, .int 0])
    rw [ed2]
    clear ed2
    refine ⟨one_le, fun qd3 zd3 => ?_⟩
    obtain ⟨Jd3, ed3, vd3, fd3⟩ := gen Jd2 zd3 (.lst [.ref qd2])
    rw [ed3]
    clear ed3
    refine ⟨qd1, qd3, _, _, rfl, rfl, ((vd2.trans vd3) _ _ fd1), ((Same.refl _) _ _ fd3), ?_, fun qd4 zd4 => ?_⟩
    · clear r1 r2 r3 fi1 fi2 fi3
      refine Nat.le_of_lt (small1000 ?_)
      (try simp only [List.length_append, List.length_cons, List.length_nil, Nat.zero_add])
      omega
    obtain ⟨Jd4, ed4, vd4, fd4⟩ := gen Jd3 zd4 (.lst (cutV X none (some (at' : Int)) ++ [.ref qd2]))
    rw [ed4]
    clear ed4
    refine ⟨_, rfl, _, rfl, _, rfl, R, _, rfl, (SqL.of ((va1.trans (va2.trans (va3.trans (va4.trans (va5.trans (va6.trans (vl1.trans (vb1.trans (vb2.trans (vb3.trans (vb4.trans (vb5.trans (vd1.trans (vd2.trans (vd3.trans vd4))))))))))))))) _ _ DT)), fun qd5 zd5 => ?_⟩
    obtain ⟨Jd5, ed5, vd5, fd5⟩ := gen Jd4 zd5 (.lst (cutV X (some (at' : Int)) none))
    rw [ed5]
    clear ed5
    refine ⟨qd4, qd5, _, _, rfl, rfl, (vd5 _ _ fd4), ((Same.refl _) _ _ fd5), ?_, fun qd6 zd6 => ?_⟩
    · clear r1 r2 r3 fi1 fi2 fi3
      refine Nat.le_of_lt (small1000 ?_)
      (try simp only [List.length_append, List.length_cons, List.length_nil, Nat.zero_add])
      omega
    obtain ⟨Jd6, ed6, vd6, fd6⟩ := gen Jd5 zd6 (.lst ((cutV X none (some (at' : Int)) ++ [.ref qd2]) ++ cutV X (some (at' : Int)) none))
    rw [ed6]
    clear ed6
    refine ⟨_, rfl, one_le, fun qd7 zd7 => ?_⟩
    obtain ⟨Jd7, ed7, vd7, fd7⟩ := gen Jd6 zd7 (.lst [.ref R])
    rw [ed7]
    clear ed7
    intro qd8 zd8
    obtain ⟨Jd8, ed8, vd8, fd8⟩ := gen Jd7 zd8 (.dK [])
    rw [ed8]
    clear ed8
    refine ⟨(by show 4 ≤ sizeLine; decide), fun ql2 zl2 => ?_⟩
    obtain ⟨Jl2, el2, vl2, fl2⟩ := gen Jd8 zl2 (.lst [.ref qb5, .ref qd6, .ref qd7, .ref qd8])
    rw [el2]
    clear el2
    refine ⟨ql1, ql2, _, _, rfl, rfl, ((vb1.trans (vb2.trans (vb3.trans (vb4.trans (vb5.trans (vd1.trans (vd2.trans (vd3.trans (vd4.trans (vd5.trans (vd6.trans (vd7.trans (vd8.trans vl2))))))))))))) _ _ fl1), ((Same.refl _) _ _ fl2), (by show 7 + 4 ≤ sizeLine; decide), fun ql3 zl3 => ?_⟩
    obtain ⟨Jl3, el3, vl3, fl3⟩ := gen Jl2 zl3 (.lst ([.ref R, .ref qa1, .non, .ref qa2, .ref qa5, .ref qa6, .int 7] ++ [.ref qb5, .ref qd6, .ref qd7, .ref qd8]))
    rw [el3]
    clear el3
    refine ⟨_, rfl, _, rfl, (by show 3 ≤ sizeLine; decide), fun qg1 zg1 => ?_⟩
    obtain ⟨Jg1, eg1, vg1, fg1⟩ := gen Jl3 zg1 (.tup [.int 0, .int 0, .int 0])
    rw [eg1]
    clear eg1
    refine ⟨one_le, fun qg2 zg2 => ?_⟩
    obtain ⟨Jg2, eg2, vg2, fg2⟩ := gen Jg1 zg2 (.lst [.ref qg1])
    rw [eg2]
    clear eg2
    refine ⟨R, qg2, _, _, rfl, rfl, ((va1.trans (va2.trans (va3.trans (va4.trans (va5.trans (va6.trans (vl1.trans (vb1.trans (vb2.trans (vb3.trans (vb4.trans (vb5.trans (vd1.trans (vd2.trans (vd3.trans (vd4.trans (vd5.trans (vd6.trans (vd7.trans (vd8.trans (vl2.trans (vl3.trans (vg1.trans vg2))))))))))))))))))))))) _ _ DT), ((Same.refl _) _ _ fg2), ?_, fun qg3 zg3 => ?_⟩
    · clear r1 r2 r3 fi1 fi2 fi3
      refine Nat.le_of_lt (small1000 ?_)
      (try simp only [List.length_append, List.length_cons, List.length_nil, Nat.zero_add])
      omega
    obtain ⟨Jg3, eg3, vg3, fg3⟩ := gen Jg2 zg3 (.lst (X ++ [.ref qg1]))
    rw [eg3]
    clear eg3
    refine ⟨Nat.zero_le _, fun qg4 zg4 => ?_⟩
    obtain ⟨Jg4, eg4, vg4, fg4⟩ := gen Jg3 zg4 (.lst [])
    rw [eg4]
    clear eg4
    refine ⟨(by show 2 ≤ sizeLine; decide), fun ql4 zl4 => ?_⟩
    obtain ⟨Jl4, el4, vl4, fl4⟩ := gen Jg4 zl4 (.lst [.ref qg3, .ref qg4])
    rw [el4]
    clear el4
    refine ⟨ql3, ql4, _, _, rfl, rfl, ((vg1.trans (vg2.trans (vg3.trans (vg4.trans vl4)))) _ _ fl3), ((Same.refl _) _ _ fl4), (by show 11 + 2 ≤ sizeLine; decide), fun ql5 zl5 => ?_⟩
    obtain ⟨Jl5, el5, vl5, fl5⟩ := gen Jl4 zl5 (.lst (([.ref R, .ref qa1, .non, .ref qa2, .ref qa5, .ref qa6, .int 7] ++ [.ref qb5, .ref qd6, .ref qd7, .ref qd8]) ++ [.ref qg3, .ref qg4]))
    rw [el5]
    clear el5
    have sE : Same H6 Jl5 := (va1.trans (va2.trans (va3.trans (va4.trans (va5.trans (va6.trans (vl1.trans (vb1.trans (vb2.trans (vb3.trans (vb4.trans (vb5.trans (vd1.trans (vd2.trans (vd3.trans (vd4.trans (vd5.trans (vd6.trans (vd7.trans (vd8.trans (vl2.trans (vl3.trans (vg1.trans (vg2.trans (vg3.trans (vg4.trans (vl4.trans vl5)))))))))))))))))))))))))))
    have IE : Items K Jl5 X := IX.same sE
    have good : Goods K Jl5 (([.ref R, .ref qa1, .non, .ref qa2, .ref qa5, .ref qa6, .int 7] ++ [.ref qb5, .ref qd6, .ref qd7, .ref qd8]) ++ [.ref qg3, .ref qg4]) := by
      exact (Goods.cons (Good.list (sE _ _ DT) IE (by (try simp only [List.length_append, List.length_cons, List.length_nil, Nat.zero_add, List.length_reverse]); omega))
        (Goods.cons (Good.tup ((va2.trans (va3.trans (va4.trans (va5.trans (va6.trans (vl1.trans (vb1.trans (vb2.trans (vb3.trans (vb4.trans (vb5.trans (vd1.trans (vd2.trans (vd3.trans (vd4.trans (vd5.trans (vd6.trans (vd7.trans (vd8.trans (vl2.trans (vl3.trans (vg1.trans (vg2.trans (vg3.trans (vg4.trans (vl4.trans vl5)))))))))))))))))))))))))) _ _ fa1) IE)
        (Goods.cons Good.non
        (Goods.cons (Good.list ((va3.trans (va4.trans (va5.trans (va6.trans (vl1.trans (vb1.trans (vb2.trans (vb3.trans (vb4.trans (vb5.trans (vd1.trans (vd2.trans (vd3.trans (vd4.trans (vd5.trans (vd6.trans (vd7.trans (vd8.trans (vl2.trans (vl3.trans (vg1.trans (vg2.trans (vg3.trans (vg4.trans (vl4.trans vl5))))))))))))))))))))))))) _ _ fa2) (Items.rev IE) (by (try simp only [List.length_append, List.length_cons, List.length_nil, Nat.zero_add, List.length_reverse]); omega))
        (Goods.cons (Good.list ((va6.trans (vl1.trans (vb1.trans (vb2.trans (vb3.trans (vb4.trans (vb5.trans (vd1.trans (vd2.trans (vd3.trans (vd4.trans (vd5.trans (vd6.trans (vd7.trans (vd8.trans (vl2.trans (vl3.trans (vg1.trans (vg2.trans (vg3.trans (vg4.trans (vl4.trans vl5)))))))))))))))))))))) _ _ fa5) ((IE.cut _ _).app (IE.cut _ _)) (by (try simp only [List.length_append, List.length_cons, List.length_nil, Nat.zero_add, List.length_reverse]); omega))
        (Goods.cons (Good.list ((vl1.trans (vb1.trans (vb2.trans (vb3.trans (vb4.trans (vb5.trans (vd1.trans (vd2.trans (vd3.trans (vd4.trans (vd5.trans (vd6.trans (vd7.trans (vd8.trans (vl2.trans (vl3.trans (vg1.trans (vg2.trans (vg3.trans (vg4.trans (vl4.trans vl5))))))))))))))))))))) _ _ fa6) (IE.app IE) (by (try simp only [List.length_append, List.length_cons, List.length_nil, Nat.zero_add, List.length_reverse]); omega))
        (Goods.cons Good.int
        (Goods.cons (Good.list ((vd1.trans (vd2.trans (vd3.trans (vd4.trans (vd5.trans (vd6.trans (vd7.trans (vd8.trans (vl2.trans (vl3.trans (vg1.trans (vg2.trans (vg3.trans (vg4.trans (vl4.trans vl5))))))))))))))) _ _ fb5) (((IE.cut _ _).app (Items.cons ⟨_, .non⟩ .nil)).app (IE.cut _ _)) (by (try simp only [List.length_append, List.length_cons, List.length_nil, Nat.zero_add, List.length_reverse]); omega))
        (Goods.cons (Good.list ((vd7.trans (vd8.trans (vl2.trans (vl3.trans (vg1.trans (vg2.trans (vg3.trans (vg4.trans (vl4.trans vl5))))))))) _ _ fd6) (((IE.cut _ _).app (Items.cons ⟨_, (.tup ((vd3.trans (vd4.trans (vd5.trans (vd6.trans (vd7.trans (vd8.trans (vl2.trans (vl3.trans (vg1.trans (vg2.trans (vg3.trans (vg4.trans (vl4.trans vl5))))))))))))) _ _ fd2) (.cons (.int _) (.cons (.int _) (.cons (.int _) .nil))))⟩ .nil)).app (IE.cut _ _)) (by (try simp only [List.length_append, List.length_cons, List.length_nil, Nat.zero_add, List.length_reverse]); omega))
        (Goods.cons (Good.list ((vd8.trans (vl2.trans (vl3.trans (vg1.trans (vg2.trans (vg3.trans (vg4.trans (vl4.trans vl5)))))))) _ _ fd7) (Items.cons (Items.list (sE _ _ DT) IE) .nil) (by (try simp only [List.length_append, List.length_cons, List.length_nil, Nat.zero_add, List.length_reverse]); omega))
        (Goods.cons (Good.dict ((vl2.trans (vl3.trans (vg1.trans (vg2.trans (vg3.trans (vg4.trans (vl4.trans vl5))))))) _ _ fd8))
        (Goods.cons (Good.list ((vg4.trans (vl4.trans vl5)) _ _ fg3) (IE.app (Items.cons ⟨_, (.tup ((vg2.trans (vg3.trans (vg4.trans (vl4.trans vl5)))) _ _ fg1) (.cons (.int _) (.cons (.int _) (.cons (.int _) .nil))))⟩ .nil)) (by (try simp only [List.length_append, List.length_cons, List.length_nil, Nat.zero_add, List.length_reverse]); omega))
        (Goods.cons (Good.list ((vl4.trans vl5) _ _ fg4) .nil (by (try simp only [List.length_append, List.length_cons, List.length_nil, Nat.zero_add, List.length_reverse]); omega))
        Goods.nil)))))))))))))
    have DRE := Dts.same sE _ _ DR
    have DE : Deeds H1 Jl5 R ts := DD.same sE
    have tbE := tb6.same sE
    have bE : But g H Jl5 := bN.trans (.of sE)
    generalize (([.ref R, .ref qa1, .non, .ref qa2, .ref qa5, .ref qa6, .int 7] ++ [.ref qb5, .ref qd6, .ref qd7, .ref qd8]) ++ [.ref qg3, .ref qg4] : List V) = VS at fl5 good
    clear va1 va2 va3 va4 va5 va6 vl1 vb1 vb2 vb3 vb4 vb5 vd1 vd2 vd3 vd4 vd5 vd6 vd7 vd8 vl2 vl3 vg1 vg2 vg3 vg4 vl4 vl5
    clear fa1 fa2 fa3 fa4 fa5 fa6 fl1 fb1 fb2 fb3 fb4 fb5 fd1 fd2 fd3 fd4 fd5 fd6 fd7 fd8 fl2 fl3 fg1 fg2 fg3 fg4 fl4
    refine ⟨_, rfl, ql5, rfl, ⟨_, SqL.of fl5⟩, ?_⟩
    refine for_list (K := K) (a := ql5) (xs := VS) (fun _ σ H' => ∃ (y8 y9 y10 y11 : Option V), σ = [some (.ref g), some (.int k), some (.ref c), some (.ref R), some (.ref p), some (.str (withRoad kss ts).shown), some (.int (at' : Nat)), some (.ref ql5), y8, y9, y10, y11, none, none, none, none, none, none, none] ∧ Same Jl5 H')
      ⟨_, _, _, _, rfl, Same.refl _⟩ (fun i σ H' _ z => by
        obtain ⟨_, _, _, _, _, s'⟩ := z
        exact SqL.of (s' _ _ fl5)) ?_ ?_
    · rintro i X0 σ M0 hi ⟨y8, y9, y10, y11, rfl, s0⟩
      obtain ⟨D0, hD0, lb⟩ := good X0 (List.mem_of_getElem? hi)
      have hD := hD0.same s0
      refine ⟨_, rfl, _, _, _, _, _, rfl, .ty "list", hD.ty, kit_list D0, _, rfl, _, _, rfl, ?_⟩
      refine ⟨_, rfl, _, _, _, _, _, rfl, .ty "list", hD.ty, kit_list D0, _, rfl, ?_⟩
      by_cases e : ∃ es, D0 = .list es
      · obtain ⟨es, rfl⟩ := e
        have hD2 := hD
        cases hD with
        | lst ha hx =>
          rename_i a ys
          have hD := hD2
          have lye := hx.length
          refine iteT ⟨_, rfl, a, rfl, ⟨_, SqL.of ha⟩, ?_⟩
          refine for_list (K := K) (a := a) (xs := ys) (fun i σ H' => ∃ (p1 : Addr) (rs1 : List Addr) (y11 : Option V), σ = [some (.ref g), some (.int k), some (.ref c), some (.ref R), some (.ref p), some (.str (withRoad kss ts).shown), some (.int (at' : Nat)), some (.ref ql5), some (.ref a), some (.bl ((es.take i).foldl (stepK k) (kss, true)).2), some (.ref p1), y11, none, none, none, none, none, none, none] ∧ Same M0 H' ∧ Tab H' p1 rs1 ((es.take i).foldl (stepK k) (kss, true)).1 ∧ Fine k ((es.take i).foldl (stepK k) (kss, true)).1 ∧ ((es.take i).foldl (stepK k) (kss, true)).1.length = kss.length)
            ⟨c, rs, _, rfl, Same.refl _, tbE.same s0, fine, rfl⟩ (fun i σ H' _ z => by
              obtain ⟨_, _, _, _, s', _⟩ := z
              exact SqL.of (s' _ _ ha)) ?_ ?_
          · rintro i y σ M1 hi ⟨p1, rs1, y11, rfl, s1, t1, fS, lS⟩
            obtain ⟨e, he, de⟩ := hx.get hi
            have step : (es.take (i + 1)).foldl (stepK k) (kss, true) = stepK k ((es.take i).foldl (stepK k) (kss, true)) e := by
              rw [List.take_succ, he, List.foldl_append]
              rfl
            rw [step]
            have gd := step_good (d := e) fS
            generalize (es.take i).foldl (stepK k) (kss, true) = ST at t1 fS lS gd
            obtain ⟨ks0, b0⟩ := ST
            cases b0 with
            | false =>
              refine ⟨_, rfl, _, rfl, iteF ?_⟩
              refine ⟨_, rfl, _, rfl, iteF ⟨_, rfl, ?_⟩⟩
              exact ⟨p1, rs1, _, rfl, s1, t1, fS, lS⟩
            | true =>
              refine ⟨_, rfl, _, rfl, iteT ?_⟩
              refine ⟨_, rfl, _, rfl, _, rfl, k, p1, y, e, rs1, ks0, rfl, t1, fS, by rw [lS]; exact m40, de.same s1, fun M2 s2 => ?_⟩
              have s02 := s1.trans s2
              have e2 : stepK k (ks0, true) e = (if deedB k ks0 e then doD ks0 e else ks0, deedB k ks0 e) := rfl
              rw [e2] at gd ⊢
              cases hB : deedB k ks0 e with
              | false =>
                rw [hB] at gd
                refine ⟨_, rfl, _, rfl, iteF ⟨_, rfl, ?_⟩⟩
                exact ⟨p1, rs1, _, rfl, s02, t1.same s2, fS, lS⟩
              | true =>
                rw [hB] at gd
                obtain ⟨a2, b2, v2, rfl, ab, bn, _⟩ := deed_nat hB
                cases de with
                | tup hy hz =>
                  rename_i ty zs
                  cases hz with
                  | cons h1 hz =>
                    cases h1
                    cases hz with
                    | cons h1 hz =>
                      cases h1
                      cases hz with
                      | cons h1 hz =>
                        cases h1
                        cases hz
                        refine ⟨_, rfl, _, rfl, iteT ⟨_, rfl, _, rfl, p1, ty, rs1, ks0, k, a2, b2, v2, rfl, t1.same s2, fS, by rw [lS]; exact m40, s02 _ _ hy, ab, bn, fun p3 ps3 M3 s3 u3 _ _ => ?_⟩⟩
                        exact ⟨p3, ps3, _, rfl, s02.trans s3, u3, gd.1, by rw [← lS]; exact gd.2⟩
          · rintro σ M1 ⟨p1, rs1, y11, rfl, s1, _⟩
            have sV0 := s1
            have sV := s0.trans s1
            obtain ⟨X0, hX0⟩ : ∃ x : V, x = .ref a := ⟨_, rfl⟩
            obtain ⟨D0, hD0'⟩ : ∃ D0 : PyData, D0 = .list es := ⟨_, rfl⟩
            rw [← hX0, ← hD0'] at hD
            rw [← hD0'] at lb
            have hdue : ((es.take ys.length).foldl (stepK k) (kss, true)).2 = roadD k kss D0 := by
              rw [lye, List.take_length, hD0', step_road (i := 0), Nat.zero_add]
              rfl
            rw [← hX0]
            refine ⟨_, rfl, _, rfl, _, rfl, k, c, X0, D0, rs, kss, rfl, k2, k9, tbE.same sV, fine, m1, m40, hD.same sV0, fun ds e => Nat.le_trans (lb ds e) (by decide), fun V1 t1 => ?_⟩
            refine ⟨_, rfl, roadD k kss D0, by rw [hdue]; rfl, _, rfl, iteF ?_⟩
            refine ⟨_, rfl, _, rfl, _, rfl, k, c, X0, D0, rs, kss, rfl, k2, k9, tbE.same (sV.trans t1), fine, m1, m40, hD.same (sV0.trans t1), fun ds e => Nat.le_trans (lb ds e) (by decide), fun V2 t2 => ?_⟩
            refine ⟨_, rfl, roadD k kss D0, by rw [hdue]; rfl, _, rfl, iteF ?_⟩
            exact ⟨_, _, _, _, rfl, (sV.trans t1).trans t2⟩
      · have z : isList D0 = false ∧ roadD k kss D0 = false := by
          cases D0 with
          | list ds => exact (e ⟨ds, rfl⟩).elim
          | _ => exact ⟨rfl, rfl⟩
        rw [z.1]
        refine iteF ⟨Nat.zero_le _, fun w hw => ?_⟩
        obtain ⟨M1, e1, s1, f1⟩ := gen M0 hw (.lst [])
        rw [e1]
        clear e1
        refine ⟨w, rfl, ⟨_, SqL.of f1⟩, ?_⟩
        refine for_list (K := K) (a := w) (xs := []) (fun i σ H' => ∃ (y11 : Option V), σ = [some (.ref g), some (.int k), some (.ref c), some (.ref R), some (.ref p), some (.str (withRoad kss ts).shown), some (.int (at' : Nat)), some (.ref ql5), some X0, some (.bl false), some (.ref c), y11, none, none, none, none, none, none, none] ∧ Same M1 H')
          ⟨_, rfl, Same.refl _⟩ (fun i σ H' _ z => by
            obtain ⟨_, _, s'⟩ := z
            exact SqL.of (s' _ _ f1)) ?_ ?_
        · intro i y σ M2 hi
          cases hi
        · rintro σ M2 ⟨y11, rfl, s2⟩
          have sV0 := s1.trans s2
          have sV := s0.trans sV0
          have hdue := z.2.symm
          refine ⟨_, rfl, _, rfl, _, rfl, k, c, X0, D0, rs, kss, rfl, k2, k9, tbE.same sV, fine, m1, m40, hD.same sV0, fun ds e => Nat.le_trans (lb ds e) (by decide), fun V1 t1 => ?_⟩
          refine ⟨_, rfl, roadD k kss D0, by rw [hdue]; rfl, _, rfl, iteF ?_⟩
          refine ⟨_, rfl, _, rfl, _, rfl, k, c, X0, D0, rs, kss, rfl, k2, k9, tbE.same (sV.trans t1), fine, m1, m40, hD.same (sV0.trans t1), fun ds e => Nat.le_trans (lb ds e) (by decide), fun V2 t2 => ?_⟩
          refine ⟨_, rfl, roadD k kss D0, by rw [hdue]; rfl, _, rfl, iteF ?_⟩
          exact ⟨_, _, _, _, rfl, (sV.trans t1).trans t2⟩
    rintro σ N0 ⟨y8, y9, y10, y11, rfl, sN⟩
    have c1 : cutV X none (some 1) = X.take 1 := by
      cases X with
      | nil => rfl
      | cons x xs => exact cut_to (i := 1) (by simp)
    have DT0 := sN _ _ DE.top
    rw [hX] at DT0
    have hfirst : ∀ t tl, ts = t :: tl → deedB k kss (deedP t.2) = true ∧ t.2.1 < t.2.2.1 ∧ t.2.2.1 < kss.length ∧ t.2.2.2 ≠ tieN kss t.2.1 t.2.2.1 ∧ alikeB kss t.2.1 t.2.2.1 = true := fun t tl h => by
      have := fo
      rw [h] at this
      have hB : deedB k kss (deedP t.2) = true := follow_first (ds := tl.map fun t => deedP t.2) (ks := ks) (by rw [List.length_cons, List.length_map]; exact this)
      obtain ⟨a, b, v, ed, ab, bn, v0, vk, ne, al⟩ := deed_nat hB
      have e3 : t.2 = (a, b, v) := by
        unfold deedP at ed
        injection ed with ed
        simp at ed
        obtain ⟨x1, x2, x3⟩ := ed
        exact Prod.ext (by omega) (Prod.ext (by show t.2.2.1 = b; omega) x3)
      refine ⟨hB, ?_⟩
      rw [show t.2.1 = a by rw [e3], show t.2.2.1 = b by rw [e3], show t.2.2.2 = v by rw [e3]]
      exact ⟨ab, bn, ne, al⟩
    refine ⟨_, rfl, _, rfl, _, rfl, R, _, rfl, SqL.of DT0, fun w1 hw1 => ?_⟩
    rw [c1]
    obtain ⟨N1, e1, s1, f1⟩ := gen N0 hw1 (.lst (X.take 1))
    rw [e1]
    clear e1
    refine ⟨Nat.zero_le _, fun w2 hw2 => ?_⟩
    obtain ⟨N2, e2, s2, f2⟩ := gen N1 hw2 (.lst [])
    rw [e2]
    clear e2
    refine ⟨(by show 3 ≤ sizeLine; decide), fun w3 hw3 => ?_⟩
    obtain ⟨N3, e3, s3', f3'⟩ := gen N2 hw3 (.lst [.ref R, .ref w1, .ref w2])
    rw [e3]
    clear e3
    have sN3 := sN.trans (s1.trans (s2.trans s3'))
    have D3 := Dts.same sN3 _ _ DRE
    have R3 := sN3 _ _ DE.top
    rw [hX] at R3
    have tb3 := tbE.same sN3
    have bN3 := bE.trans (.of sN3)
    have DE3 := DE.same sN3
    have dc := DE3.dt (K := K)
    rw [List.map_map] at dc
    have lD : (ts.map fun t => deedP t.2).length = ts.length := List.length_map ..
    have ways : ∀ x ∈ [V.ref R, .ref w1, .ref w2], ∃ (wd : Addr) (xs : List V) (ds : List PyData), x = .ref wd ∧ N3 wd = some (.lst xs) ∧ Dts K N3 xs ds ∧ xs.length ≤ 100000 ∧ (followK k kss ds 0).2 = ds.length := by
      intro x hx
      rcases List.mem_cons.mp hx with rfl | hx
      · exact ⟨R, X, _, rfl, R3, D3, by omega, fo2⟩
      rcases List.mem_cons.mp hx with rfl | hx
      · refine ⟨w1, _, _, rfl, s3' _ _ (s2 _ _ f1), dts_take D3 1, by rw [List.length_take]; omega, ?_⟩
        cases hts : ts.map fun t => deedP t.2 with
        | nil => rfl
        | cons d ds =>
          rw [hts] at fo lD
          have := follow_take (k := k) (ds := d :: ds) (kss := kss) (ks := ks) (i := 0) 1 (by rw [fo, lD, Nat.zero_add]) (by simp)
          rw [this]
          rfl
      rw [List.mem_singleton] at hx
      subst hx
      exact ⟨w2, _, _, rfl, s3' _ _ f2, .nil, Nat.zero_le _, rfl⟩
    refine ⟨w3, rfl, ⟨_, SqL.of f3'⟩, ?_⟩
    refine for_list (K := K) (a := w3) (xs := [.ref R, .ref w1, .ref w2]) (fun _ σ H' => ∃ (y12 y13 y14 : Option V), σ = [some (.ref g), some (.int k), some (.ref c), some (.ref R), some (.ref p), some (.str (withRoad kss ts).shown), some (.int (at' : Nat)), some (.ref ql5), y8, y9, y10, y11, y12, y13, y14, none, none, none, none] ∧ Same N3 H')
      ⟨_, _, _, rfl, Same.refl _⟩ (fun i σ H' _ z => by
        obtain ⟨_, _, _, _, s'⟩ := z
        exact SqL.of (s' _ _ f3')) ?_ ?_
    · rintro i x σ M0 hi ⟨y12, y13, y14, rfl, s0⟩
      obtain ⟨wd, xs, ds, rfl, hwd, dts, lxs, fod⟩ := ways x (List.mem_of_getElem? hi)
      refine ⟨_, rfl, _, rfl, _, rfl, k, c, wd, rs, kss, xs, ds, rfl, k2, k9, tb3.same s0, fine, m1, m40, s0 _ _ hwd, Dts.same s0 _ _ dts, lxs, fod, fun p7 ps7 M1 t1 u7 np7 pn7 nr7 => ?_⟩
      obtain ⟨ff, fl⟩ := follow_fine (ds := ds) (i := 0) fine
      generalize (followK k kss ds 0).1 = k7 at u7 ff fl
      refine ⟨_, rfl, p7, rfl, ⟨_, SqL.of u7.top⟩, ?_⟩
      have lps : ps7.length = kss.length := by rw [u7.len, fl]
      refine for_list (K := K) (a := p7) (xs := ps7.map V.ref) (fun i σ H' => ∃ y14 : Option V, σ = [some (.ref g), some (.int k), some (.ref c), some (.ref R), some (.ref p), some (.str (withRoad kss ts).shown), some (.int (at' : Nat)), some (.ref ql5), y8, y9, y10, y11, some (.ref wd), some (.ref p7), y14, none, none, none, none] ∧ Same M0 H' ∧ H' p7 = some (.lst (ps7.map V.ref)) ∧ ∀ r ∈ ps7, ∃ ys, H' r = some (.lst ys) ∧ ys.length ≤ 100 + i)
        ⟨_, rfl, t1, u7.top, fun r hr' => by
          obtain ⟨i, hi⟩ := List.getElem?_of_mem hr'
          have il : i < k7.length := by rw [← u7.len]; exact (List.getElem?_eq_some_iff.mp hi).1
          refine ⟨_, u7.row i r _ hi (List.getElem?_eq_getElem il), ?_⟩
          rw [List.length_map]
          have := (ff i _ (List.getElem?_eq_getElem il)).1
          omega⟩ (fun i σ H' _ z => by
          obtain ⟨_, _, _, h, _⟩ := z
          exact SqL.of h) ?_ ?_
      · rintro i y σ M2 hi ⟨y14, rfl, t2, pM, rM⟩
        rw [List.getElem?_map] at hi
        cases er : ps7[i]? with
        | none =>
          rw [er] at hi
          cases hi
        | some r =>
          rw [er] at hi
          cases hi
          have il := (List.getElem?_eq_some_iff.mp er).1
          have rm := List.mem_of_getElem? er
          obtain ⟨ys, hys, lys⟩ := rM r rm
          refine ⟨_, rfl, .inl ⟨rfl, _, SqL.of hys⟩, r, _, _, rfl, rfl, hys, by exact small1000 (by omega), ?_⟩
          refine ⟨_, rfl, fun x o e => ?_, ?_, fun r2 hr2 => ?_⟩
          · rw [upd_ne (ne_of_none e (nr7 r rm))]
            exact t2 _ _ e
          · rw [upd_ne (fun z => pn7 (by rw [z]; exact rm))]
            exact pM
          · by_cases c2 : r2 = r
            · subst c2
              refine ⟨_, upd_same, ?_⟩
              rw [List.length_append]
              show ys.length + 1 ≤ _
              omega
            · obtain ⟨zs, hzs, lzs⟩ := rM r2 hr2
              exact ⟨zs, by rw [upd_ne c2]; exact hzs, by omega⟩
      · rintro σ M2 ⟨y14, rfl, t2, pM, rM⟩
        refine ⟨_, rfl, .inl ⟨rfl, _, SqL.of pM⟩, p7, _, _, rfl, rfl, pM, by rw [List.length_map]; exact small1000 (by omega), ?_⟩
        have sU : Same M0 (upd M2 p7 (.lst (ps7.map V.ref ++ [.non]))) := fun x o e => by
          rw [upd_ne (ne_of_none e np7)]
          exact t2 _ _ e
        generalize upd M2 p7 (.lst (ps7.map V.ref ++ [.non])) = M3 at sU
        have s03 := s0.trans sU
        refine ⟨_, rfl, _, rfl, (by show 2 ≤ sizeLine; decide), fun z9 hz9 => ?_⟩
        obtain ⟨M4, e4, s4, f4⟩ := gen M3 hz9 (.lst [.ref c, .ref R])
        rw [e4]
        clear e4
        have s34 := s03.trans s4
        refine ⟨.ref z9, withRoad kss ts, rfl, .lst f4 (.cons (tb3.same s34).dt (.cons (dc.same s34) .nil)), r1, r2, r3, _, rfl, rfl, _, rfl, iteNS rfl ?_⟩
        exact ⟨_, _, _, rfl, s34⟩
    rintro σ N4 ⟨y12, y13, y14, rfl, sQ⟩
    have R4 := sQ _ _ R3
    refine ⟨_, rfl, _, rfl, R, _, rfl, SqL.of R4, fun w5 hw5 => ?_⟩
    rw [c1]
    obtain ⟨N5, e5, s5, f5⟩ := gen N4 hw5 (.lst (X.take 1))
    rw [e5]
    clear e5
    refine ⟨w5, rfl, ⟨_, SqL.of f5⟩, fun D hD => ?_⟩
    have s35 := sQ.trans s5
    refine lc_objs (walk_list (K := K) (a := w5) (xs := X.take 1)) (fun i => .tup (deedV3 ((ts.getD i default).2.1, (ts.getD i default).2.2.1, tieN kss (ts.getD i default).2.1 (ts.getD i default).2.2.1))) hD (by rw [List.length_take]; exact Nat.le_trans (Nat.min_le_left ..) one_le) (fun H' s' => SqL.of (s' _ _ f5)) ?_ ?_
    · rintro i x H6 H7 M hi s6 ⟨rfl, ev⟩ hM
      rw [List.length_take] at hi
      have i0 : i = 0 := by omega
      subst i0
      obtain ⟨t, tl, ht⟩ : ∃ t tl, ts = t :: tl := by
        cases hc : ts with
        | nil =>
          rw [hc] at hX
          rw [← hX] at hi
          simp at hi
        | cons t tl => exact ⟨t, tl, rfl⟩
      obtain ⟨_, ab, bn, ne, al⟩ := hfirst t tl ht
      have tm : t ∈ ts := by rw [ht]; exact List.mem_cons_self ..
      have ex : x = .ref t.1 := by
        rw [← hX, ht, List.map_cons, List.take_succ_cons] at ev
        injection ev with ev
        exact ev.symm
      subst ex
      have g0 : ts.getD 0 default = t := by rw [ht]; rfl
      rw [g0] at hM
      have s36 := s35.trans s6
      refine ⟨t.1, _, rfl, SqT.of (s36 _ _ (DE3.row t tm)), rfl, _, _, rfl, _, _, rfl, _, _, rfl, rfl, ?_⟩
      refine ⟨rfl, _, rfl, _, rfl, _, rfl, _, rfl, _, rfl, c, rs, kss, k, t.2.1, t.2.2.1, rfl, tb3.same s36, fine, by omega, bn, by omega, (by show 3 ≤ sizeLine; decide), fun l hl => ?_⟩
      obtain ⟨H8, e7, s7, f7⟩ := gen H7 hl (.tup (deedV3 (t.2.1, t.2.2.1, tieN kss t.2.1 t.2.2.1)))
      have e7' : upd H7 l (.tup [.int (t.2.1 : Nat), .int (t.2.2.1 : Nat), .int (tieN kss t.2.1 t.2.2.1)]) = H8 := e7
      rw [e7']
      exact hM H8 l s7 hl f7
    intro He qs se ob
    have sE2 := s35.trans se
    refine ⟨_, rfl, Nat.zero_le _, fun e0 he0 => ?_⟩
    obtain ⟨Hf, ef, sf, ff⟩ := gen He he0 (.lst [])
    rw [ef]
    clear ef
    have sF := sE2.trans sf
    refine ⟨R, e0, _, rfl, rfl, SqL.of (sF _ _ R3), SqL.of ff, _, rfl, ?_⟩
    by_cases hc : ∃ t tl, ts = t :: tl
    · obtain ⟨t, tl, ht⟩ := hc
      obtain ⟨okd, ab, bn, ne, al⟩ := hfirst t tl ht
      have tm : t ∈ ts := by rw [ht]; exact List.mem_cons_self ..
      have g0 : ts.getD 0 default = t := by rw [ht]; rfl
      have X1 : X.take 1 = [.ref t.1] := by
        rw [← hX, ht, List.map_cons, List.take_succ_cons, List.take_zero]
      have eX : X.isEmpty = false := by rw [← hX, ht]; rfl
      rw [eX]
      obtain ⟨qa, hqa⟩ : ∃ qa, qs = [qa] := by
        have l1 := ob.len
        rw [X1] at l1
        match qs, l1 with
        | [qa], _ => exact ⟨qa, rfl⟩
      have rowq := ob.row 0 qa (by rw [hqa]; rfl)
      rw [g0] at rowq
      have topq := ob.top
      rw [hqa] at topq
      refine iteT ?_
      refine ⟨_, rfl, _, rfl, _, rfl, _, rfl, R, _, rfl, SqL.of (sF _ _ R3), fun w6 hw6 => ?_⟩
      rw [c1, X1]
      obtain ⟨Hg, eg, sg, fg⟩ := gen Hf hw6 (.lst [.ref t.1])
      rw [eg]
      clear eg
      refine ⟨_, rfl, w6, D, _, _, rfl, rfl, fg, sg _ _ (sf _ _ topq), (by show 1 + 1 ≤ sizeLine; decide), fun w7 hw7 => ?_⟩
      obtain ⟨Hh, eh, sh, fh⟩ := gen Hg hw7 (.lst [.ref t.1, .ref qa])
      have eh' : upd Hg w7 (.lst ([.ref t.1] ++ List.map V.ref [qa])) = Hh := eh
      rw [eh']
      clear eh eh'
      have sH := sF.trans (sg.trans sh)
      have fo9 : followK k kss [deedP t.2, deedP (t.2.1, t.2.2.1, tieN kss t.2.1 t.2.2.1)] 0 = (kss, 2) := by
        have ed : doD kss (deedP t.2) = setT kss t.2.2.1 t.2.1 t.2.2.2 := rfl
        rw [follow_cons, okd, if_pos rfl, ed, follow_cons, back_ok fine ab bn ne al, if_pos rfl, back_do fine ab bn]
        rfl
      refine ⟨k, c, w7, rs, kss, _, [deedP t.2, deedP (t.2.1, t.2.2.1, tieN kss t.2.1 t.2.2.1)], rfl, k2, k9, tb3.same sH, fine, m1, m40, fh, .cons (.tup (sH _ _ (DE3.row t tm)) (.cons (.int _) (.cons (.int _) (.cons (.int _) .nil)))) (.cons (.tup (sh _ _ (sg _ _ (sf _ _ rowq))) (.cons (.int _) (.cons (.int _) (.cons (.int _) .nil)))) .nil), (by show 2 ≤ 100000; decide), by rw [fo9]; rfl, fun p8 ps8 Hi si u8 _ _ _ => ?_⟩
      rw [fo9] at u8
      have sI := sH.trans si
      refine ⟨_, rfl, tabP kss, tabP kss, u8.dp, (tb3.same sI).dp, shaped_tab _, shaped_tab _, _, rfl, ?_⟩
      rw [eqv_tab, decide_eq_true rfl]
      refine iteF ?_
      refine ⟨_, rfl, _, rfl, (by show 2 ≤ sizeLine; decide), fun z9 hz9 => ?_⟩
      obtain ⟨M4, e4, s4, f4⟩ := gen Hi hz9 (.lst [.ref c, .ref R])
      rw [e4]
      clear e4
      have s34 := sI.trans s4
      refine ⟨.ref z9, withRoad kss ts, rfl, .lst f4 (.cons (tb3.same s34).dt (.cons (dc.same s34) .nil)), r1, r2, r3, _, rfl, rfl, ?_⟩
      rw [decide_eq_true rfl]
      exact q _ (bN3.trans (.of s34))
    · have e0 : ts = [] := by
        cases h : ts with
        | nil => rfl
        | cons t tl => exact (hc ⟨t, tl, h⟩).elim
      have eX : X.isEmpty = true := by rw [← hX, e0]; rfl
      rw [eX]
      refine iteF (iteF ?_)
      refine ⟨_, rfl, _, rfl, (by show 2 ≤ sizeLine; decide), fun z9 hz9 => ?_⟩
      obtain ⟨M4, e4, s4, f4⟩ := gen Hf hz9 (.lst [.ref c, .ref R])
      rw [e4]
      clear e4
      have s34 := sF.trans s4
      refine ⟨.ref z9, withRoad kss ts, rfl, .lst f4 (.cons (tb3.same s34).dt (.cons (dc.same s34) .nil)), r1, r2, r3, _, rfl, rfl, ?_⟩
      rw [decide_eq_true rfl]
      exact q _ (bN3.trans (.of s34))
end
end K03

namespace K03
open PySem PySem.Spec PyProof.Rows
open L2
open GL
theorem deeds_plain (k : Int) (kss : List (List Int)) : plainD (deedsP k kss) = true := by
  unfold deedsP
  simp only [plainD]
  refine plainA_of fun x hx => ?_
  obtain ⟨c, _, rfl⟩ := List.mem_map.mp hx
  unfold deedP
  simp [plainD, plainA]
theorem deeds_shaped {k : Int} {kss : List (List Int)} (k0 : 0 ≤ k) (k9 : k ≤ 9) (n : kss.length ≤ 40) : SeqAt.shaped (deedsP k kss) = true := by
  refine plain_shaped (deeds_plain k kss) ?_
  have two : Fit (sizeLine * sizeLine) 3 (deedsP k kss) → (deedsP k kss).depth ≤ 64 := fun h => by have := h.2.2; omega
  have all : ∀ e ∈ (deedsL k kss).map deedP, Fit 400 2 e := fun e he => by
    obtain ⟨c, hc, rfl⟩ := List.mem_map.mp he
    obtain ⟨b1, b2, b3, b4, _, _⟩ := deeds_mem k0 hc
    exact (Fit.tuple (B := 110) (d := 1) (n := 3) (fun e he => by
      simp at he
      rcases he with rfl | rfl | rfl
      · exact Fit.int (by show ((c.1 : Nat) : Int).natAbs < 2 ^ 100; omega)
      · exact Fit.int (by show ((c.2.1 : Nat) : Int).natAbs < 2 ^ 100; omega)
      · exact Fit.int (by omega)) (Nat.le_refl _)).more (by decide) (Nat.le_refl _)
  have := (Fit.list (B := 400) (d := 2) (n := ((deedsL k kss).map deedP).length) all (Nat.le_refl _)).2.2
  exact Nat.le_trans this (by decide)
theorem _root_.GL.Deeds.dp {K : PySem.W.Frag} {H0 H : Hp} {a : Addr} {ts : List DeedT} {k : Int} {kss : List (List Int)} (R : Deeds H0 H a ts) (e : ts.map (·.2) = deedsL k kss) : Dp K H (.ref a) (deedsP k kss) := by
  have := R.dt (K := K)
  rw [e] at this
  exact this.toDp _ _ (deeds_plain k kss)
theorem _root_.GL.Deeds.but {g a : Addr} {H0 H H' : Hp} {ts : List DeedT} {n : Nat} (R : Deeds H0 H a ts) (G : Gen H0 g n) (n0 : H0 a = none) (b : But g H H') : Deeds H0 H' a ts := ⟨b _ _ R.top (G.ne n0).symm, fun t ht => b _ _ (R.row t ht) (G.ne (R.new t ht)).symm, R.new⟩
theorem deeds_len {k : Int} {kss : List (List Int)} (k9 : k ≤ 9) (n : kss.length ≤ 40) : (deedsL k kss).length ≤ 14400 := by
  have fl : ∀ l : List (Nat × Nat), (l.flatMap fun c => kindsOf kss c k.toNat).length ≤ l.length * 9 := fun l => by
    induction l with
    | nil => simp
    | cons a l ih =>
      rw [List.flatMap_cons, List.length_append, List.length_cons, Nat.succ_mul]
      have := kinds_len kss a k.toNat
      omega
  have h2 := fl ((cplTo kss.length kss.length).filter fun c => alikeB kss c.1 c.2)
  have h3 := List.length_filter_le (fun c : Nat × Nat => alikeB kss c.1 c.2) (cplTo kss.length kss.length)
  have h4 : (cplTo kss.length kss.length).length ≤ 1600 := Nat.le_trans (cpl_len _ _) (Nat.mul_le_mul (by omega : kss.length ≤ 40) (by omega : kss.length ≤ 40))
  unfold deedsL
  omega
def spRight3 : Sp := fun vs H Q _ => ∃ (g : Addr), vs = [.ref g] ∧ Gen H g 1000000 ∧ ∀ H', But g H H' → Q (.bl true) H'
section
variable {P : Program} {w : World} {K : PySem.W.Frag} {mg : Str → Option Value} {base : Heap}
abbrev sRight3 : Stmt := topS 63
abbrev nRight3 : List Str := ["_law_generator_here", "_law_kinds", "_law_many", "_law_company_here", "_law_due", "_law_told", "_law_deed", "_law_value", "_law_right_here"]
theorem scRight3 : FnScope nRight3 ["_law_generator_here"] (defScope sRight3) := ⟨rfl, rfl, rfl, by decide +kernel, rfl, by decide +kernel, by decide +kernel⟩
theorem ok_right3 {f : Addr} {fd : FuncData} (F : Fun K "_law_right" "_law_right" sRight3 f fd) (T : Bi mg) (Uisdeed : Use P w K mg base "is_deed" ["kinds", "company", "value"] (spIsDeed K) 6) (UisdeedK : UseK P w K mg base "is_deed" ["kinds", "company", "value"] ["value", "company", "kinds"] gQ210 gQV210 (spIsDeed K) 6) (UdeedsK : UseK P w K mg base "deeds" ["kinds", "company"] ["company", "kinds"] gQ10 gQV10 spDeeds 6) (Udeeds : Use P w K mg base "deeds" ["kinds", "company"] spDeeds 6) (ULrandom : Use P w K mg base "_law_random" ["_law_generator_here", "_law_bound"] spRandom 2) (ULyes : Use P w K mg base "_law_yes" ["_law_told", "_law_due"] spYes 1) (ULcompany : Use P w K mg base "_law_company" ["_law_generator_here", "_law_kinds", "_law_many"] spCompany 4) (ULdeeds : Use P w K mg base "_law_deeds" ["_law_kinds", "_law_company_here"] spDeedsM 3) (ULisdeed : Use P w K mg base "_law_is_deed" ["_law_kinds", "_law_company_here", "_law_value"] (spIsDeedL K) 3) (ULbent : Use P w K mg base "_law_bent" ["_law_generator_here", "_law_kinds", "_law_company_here", "_law_deed"] (spBentL K) 3) (ULdeedright : UseG P w K mg base "_law_deed_right" ["_law_generator_here", "_law_kinds", "_law_company_here", "_law_deed"] spDeedRight 8) (ULroadsright : UseG P w K mg base "_law_roads_right" ["_law_generator_here", "_law_kinds", "_law_company_here"] spRoadsRight 8) : FnG P w K mg base CX0 9 f fd ["_law_generator_here"] spRight3 := by
  obtain ⟨fUdeedsK, fdUdeedsK, FUdeedsK, mUdeedsK, kUdeedsK, bUdeedsK⟩ := UdeedsK
  obtain ⟨fUisdeedK, fdUisdeedK, FUisdeedK, mUisdeedK, kUisdeedK, bUisdeedK⟩ := UisdeedK
  refine FnG.mk' F scRight3 (fun vs H Q E h => ?_) (fun cdv A outer s H vs Q E hgd hr h => ?_)
  · obtain ⟨g, rfl, _⟩ := h
    rfl
  · obtain ⟨g, rfl, G, q⟩ := h
    have hgd' : (A.deeper (envOfC "_law_right" (defScope sRight3) s.heap.objs.size f cdv)).guards = some [] := hgd
    refine ⟨_, (pss_cons (ps_par (i := 1) (j := 2) rfl scRight3.nd rfl rfl (by decide) rfl rfl (pa_cons (pe_op op_add pe_int (pe_use ULrandom (hr.mono (by decide)) (by rfl) (pa_cons (pv 0) (pa_cons pe_int pa_nil)))) (pa_cons (pe_op op_add pe_int (pe_use ULrandom (hr.mono (by decide)) (by rfl) (pa_cons (pv 0) (pa_cons pe_int pa_nil)))) pa_nil)) (by rfl))
      (pss_cons (ps_set (i := 3) scRight3.nd rfl (Or.inl rfl) (pe_use ULcompany (hr.mono (by decide)) (by rfl) (pa_cons (pv 0) (pa_cons (pv 1) (pa_cons (pv 2) pa_nil)))))
      (pss_cons (ps_par (i := 4) (j := 5) rfl scRight3.nd rfl rfl (by decide) rfl rfl (pa_cons (pe_use ULdeeds (hr.mono (by decide)) (by rfl) (pa_cons (pv 1) (pa_cons (pv 3) pa_nil))) (pa_cons (pe_use Udeeds (hr.mono (by decide)) (by rfl) (pa_cons (pv 1) (pa_cons (pv 3) pa_nil))) pa_nil)) (by rfl))
      (pss_cons (ps_if (PW.pt (pw_or (pt_cmpR (op_neD hr.units) (pv 5) (pv 4) (nomark _)) (pw_or1 (pt_cmpR (op_neD hr.units) (pe_kws FUdeedsK (hr.mono (by decide)) (by rfl) mUdeedsK kUdeedsK bUdeedsK pass0 (pk_cons (pv 3) (pk_cons (pv 1) pk_nil))) (pv 4) (nomark _)))))
        (pss_one (ps_ret pe_bl)) pss_nil)
      (pss_cons (ps_expr (pe_bm PySem.F.plainAttrs_list PySem.F.slot_list_append PySem.F.type_list_append mt_append (pv 5) (pa_cons pe_non pa_nil)))
      (pss_cons (ps_set (i := 6) scRight3.nd rfl (Or.inl rfl) (pe_ifExp (pt_cmpR (op_neNil hr.units) (pv 4) (pe_lst pa_nil) (nomark _)) (pe_ix ix_list (pv 4) (pe_use ULrandom (hr.mono (by decide)) (by rfl) (pa_cons (pv 0) (pa_cons (pe_callB call_len_seq (by rfl) T.len PySem.boot_len (pa_cons (pv 4) pa_nil)) pa_nil))) (fun _ _ => rfl)) (pe_tup (pa_cons pe_int (pa_cons pe_int (pa_cons pe_int pa_nil))))))
      (pss_cons (ps_if (PW.pt (pw_and (pt_cmpR (op_neNil hr.units) (pv 4) (pe_lst pa_nil) (nomark _)) (pw_and1 (pt_not (pt_val (pe_useG ULdeedright hgd' hr (by rfl) (pa_cons (pv 0) (pa_cons (pv 1) (pa_cons (pv 3) (pa_cons (pv 6) pa_nil))))))))))
        (pss_one (ps_ret pe_bl)) pss_nil)
      (pss_cons (ps_for PassesOwn.never rfl (pi_list (pe_op op_cat (pe_lst (pa_cons (pv 6) pa_nil)) (pe_use ULbent (hr.mono (by decide)) (by rfl) (pa_cons (pv 0) (pa_cons (pv 1) (pa_cons (pv 3) (pa_cons (pv 6) pa_nil))))))) (pg_name (i := 7) scRight3.nd rfl (Or.inl rfl))
        (pss_cons (ps_set (i := 8) scRight3.nd rfl (Or.inl rfl) (pe_use ULisdeed (hr.mono (by decide)) (by rfl) (pa_cons (pv 1) (pa_cons (pv 3) (pa_cons (pv 7) pa_nil)))))
        (pss_cons (ps_if (pt_not (pt_val (pe_use ULyes (hr.mono (by decide)) (by rfl) (pa_cons (pe_use Uisdeed (hr.mono (by decide)) (by rfl) (pa_cons (pv 1) (pa_cons (pv 3) (pa_cons (pv 7) pa_nil)))) (pa_cons (pv 8) pa_nil)))))
          (pss_one (ps_ret pe_bl)) pss_nil)
        (pss_one (ps_if (pt_not (pt_val (pe_use ULyes (hr.mono (by decide)) (by rfl) (pa_cons (pe_kws FUisdeedK (hr.mono (by decide)) (by rfl) mUisdeedK kUisdeedK bUisdeedK pass0 (pk_cons (pv 7) (pk_cons (pv 3) (pk_cons (pv 1) pk_nil)))) (pa_cons (pv 8) pa_nil)))))
          (pss_one (ps_ret pe_bl)) pss_nil)))))
      (pss_one (ps_ret (pe_and (pe_cmpR (op_eqD hr.units) (pe_use Udeeds (hr.mono (by decide)) (by rfl) (pa_cons (pv 1) (pa_cons (pv 3) pa_nil))) (pv 4) (nomark _)) (pe_one (pe_useG ULroadsright hgd' hr (by rfl) (pa_cons (pv 0) (pa_cons (pv 1) (pa_cons (pv 3) pa_nil)))))))))))))))), ?_⟩
    refine ⟨_, rfl, g, 4, 990000, rfl, by decide, by decide, G.less (by omega), fun r H1 r0 r1 G1 b1 => ⟨_, _, rfl, rfl, ?_⟩⟩
    refine ⟨_, rfl, g, 7, 980000, rfl, by decide, by decide, G1.less (by omega), fun u H2 u0 u1 G2 b2 => ⟨_, _, rfl, rfl, _, _, rfl, ?_⟩⟩
    obtain ⟨k, hk⟩ : ∃ k, 2 + r = k := ⟨_, rfl⟩
    obtain ⟨m, hm⟩ : ∃ m : Nat, 2 + u = (m : Int) := ⟨(2 + u).toNat, by omega⟩
    dsimp only
    rw [hk, hm]
    have k2 : 2 ≤ k := by omega
    have k9 : k ≤ 9 := by omega
    have k0 : 0 ≤ k := by omega
    refine ⟨_, rfl, _, rfl, _, rfl, g, k, m, 950000, rfl, k2, k9, by omega, by omega, G2.less (by omega), fun c H3 b3 G3 co => ?_⟩
    obtain ⟨rs, kss, t3, lk, fine, _, nc, nr⟩ := co.ex
    have cg : c ≠ g := (G2.ne nc).symm
    have gr : g ∉ rs := notin_new G2 nr
    have n1 : 1 ≤ kss.length := by omega
    have n40 : kss.length ≤ 40 := by omega
    have pl := deeds_plain k kss
    have sh := deeds_shaped (kss := kss) k0 k9 n40
    have refl := (plain_eqv _ _ pl pl).mpr rfl
    have dl := deeds_len (kss := kss) k9 n40
    refine ⟨_, rfl, _, rfl, k, c, rs, kss, rfl, k2, k9, t3, fine, n40, fun L1 ts1 H4 s4 nL1 E1 e1 => ?_⟩
    have t4 := t3.same s4
    refine ⟨_, rfl, _, rfl, k, c, rs, kss, rfl, k2, k9, t4, fine, n1, n40, fun L2 ts2 H5 s5 nL2 E2 e2 => ⟨_, _, rfl, ?_⟩⟩
    refine ⟨_, rfl, _, rfl, _, _, E2.dp e2, (E1.same s5).dp e1, sh, sh, _, rfl, ?_⟩
    rw [refl]
    refine iteF ?_
    refine ⟨_, rfl, _, rfl, k, c, rs, kss, rfl, k2, k9, t4.same s5, fine, n1, n40, fun L3 ts3 H6 s6 nL3 E3 e3 => ?_⟩
    have s46 := s5.trans s6
    refine ⟨_, rfl, _, _, E3.dp e3, (E1.same s46).dp e1, sh, sh, _, rfl, ?_⟩
    rw [refl]
    refine iteF ?_
    have l2 : (ts2.map fun t => V.ref t.1).length ≤ 14400 := by
      rw [List.length_map]
      have := congrArg List.length e2
      rw [List.length_map] at this
      omega
    have l1 : (ts1.map fun t => V.ref t.1).length ≤ 14400 := by
      rw [List.length_map]
      have := congrArg List.length e1
      rw [List.length_map] at this
      omega
    refine ⟨_, rfl, .inl ⟨rfl, _, SqL.of (s6 _ _ E2.top)⟩, L2, _, _, rfl, rfl, s6 _ _ E2.top, by rw [sizeLine_eq]; omega, ?_⟩
    have G4 := G3.same s4
    have G7 := (G4.same s46).other (o := .lst ((ts2.map fun t => V.ref t.1) ++ [.non])) ((G4.ne nL2).symm)
    have s47 : Same H4 (upd H6 L2 (.lst ((ts2.map fun t => V.ref t.1) ++ [.non]))) := fun x o e => by
      rw [upd_ne (ne_of_none e nL2)]
      exact s46 _ _ e
    generalize upd H6 L2 (.lst ((ts2.map fun t => V.ref t.1) ++ [.non])) = H7 at G7 s47
    have lg : L1 ≠ g := (G3.ne nL1).symm
    dsimp only
    refine tSeq_of (tAsg_of (tIf_by (R := fun v H' => ∃ t d, v = .ref t ∧ H' t = some (.tup (deedV3 d)) ∧ t ≠ g ∧ But g H4 H' ∧ Gen H' g 700000 ∧ ((!(ts1.map fun t => V.ref t.1).isEmpty) = true → deedB k kss (deedP d) = true)) (fun Q' hq => ?_) ?_))
    · refine ⟨_, rfl, Nat.zero_le _, fun e0 he0 => ?_⟩
      obtain ⟨H8, e8, s8, f8⟩ := gen H7 he0 (.lst [])
      rw [e8]
      clear e8
      have s48 := s47.trans s8
      have E8 := E1.same s48
      have G8 := G7.same s8
      refine ⟨L1, e0, _, rfl, rfl, SqL.of E8.top, SqL.of f8, _, rfl, ?_⟩
      cases hc : ts1 with
      | nil =>
        rw [hc] at hq
        refine iteF ⟨(by show 3 ≤ sizeLine; decide), fun t ht => ?_⟩
        obtain ⟨H9, e9, s9, f9⟩ := gen H8 ht (.tup (deedV3 (0, 1, 1)))
        have e9' : upd H8 t (.tup [.int 0, .int 1, .int 1]) = H9 := e9
        rw [e9']
        exact hq _ _ ⟨t, (0, 1, 1), rfl, f9, (G8.ne ht).symm, .of (s48.trans s9), (G8.same s9).less (by omega), fun z => by cases z⟩
      | cons t0 tl =>
        rw [← hc]
        have lpos : 0 < ts1.length := by rw [hc, List.length_cons]; omega
        have ei : (ts1.map fun t => V.ref t.1).isEmpty = false := by rw [hc]; rfl
        rw [ei]
        rw [List.length_map] at l1
        refine iteT ⟨_, rfl, _, rfl, _, rfl, L1, _, rfl, .inl (SqL.of E8.top), g, _, 700000, rfl, ?_, ?_, G8.less (by omega), fun i H9 i0 i1 G9 b9 => ?_⟩
        · rw [List.length_map]
          omega
        · rw [List.length_map]
          omega
        rw [List.length_map] at i1
        have il : i.toNat < ts1.length := by omega
        obtain ⟨um, ue⟩ : ∃ u, ts1[i.toNat]? = some u := ⟨_, List.getElem?_eq_getElem il⟩
        have umm := List.mem_of_getElem? ue
        have E9 := E8.but (G3) nL1 b9
        refine ⟨L1, _, _, V.ref um.1, rfl, rfl, SqL.of E9.top, at_of (j := i.toNat) (by omega) (by rw [List.getElem?_map, ue]; rfl), ?_⟩
        have cm : um.2 ∈ deedsL k kss := by
          rw [← e1]
          exact List.mem_map_of_mem umm
        exact hq _ _ ⟨um.1, um.2, rfl, E9.row um umm, (G3.ne (E1.new um umm)).symm, (But.of s48).trans b9, G9, fun _ => deed_ok k0 cm⟩
    rintro v H9 ⟨t, d, rfl, ht, tg, b9, G9, ok9⟩
    refine gName_by ?_
    dsimp only
    have t9 := t4.but b9 cg gr
    have E9 := E1.but G3 nL1 b9
    refine tSeq_of ?_
    refine if_by (R := fun b H' => b = false ∧ But g H9 H' ∧ Gen H' g 600000) (fun Q' hq => ?_) (fun H' z => by cases z.1) ?_
    · refine ⟨_, rfl, Nat.zero_le _, fun e0 he0 => ?_⟩
      obtain ⟨Ha, ea, sa, fa⟩ := gen H9 he0 (.lst [])
      rw [ea]
      clear ea
      refine ⟨L1, e0, _, rfl, rfl, SqL.of (sa _ _ E9.top), SqL.of fa, _, rfl, ?_⟩
      cases hb : (!(ts1.map fun t => V.ref t.1).isEmpty) with
      | false => exact iteF (hq _ _ ⟨rfl, .of sa, (G9.same sa).less (by omega)⟩)
      | true =>
        refine iteT ⟨_, rfl, _, rfl, _, rfl, _, rfl, g, k, c, t, 600000, rs, kss, d, rfl, k2, k9, (G9.same sa).less (by omega), t9.same sa, fine, n1, n40, cg, gr, sa _ _ ht, ok9 hb, fun Hb bb Gb => ⟨_, rfl, hq _ _ ⟨rfl, (But.of sa).trans bb, Gb⟩⟩⟩
    rintro Ha ⟨_, ba, Ga⟩
    have ta := t9.but ba cg gr
    have hta := ba _ _ ht tg
    refine ⟨_, rfl, one_le, fun l1 hl1 => ?_⟩
    obtain ⟨Hb, eb, sb, fb⟩ := gen Ha hl1 (.lst [.ref t])
    rw [eb]
    clear eb
    obtain ⟨da, dB, dv⟩ := d
    refine ⟨_, rfl, _, rfl, _, rfl, _, rfl, g, k, c, t, 500000, rs, kss, da, dB, dv, rfl, k2, k9, (Ga.same sb).less (by omega), ta.same sb, n1, n40, sb _ _ hta, fun p xs ds Hc bc Gc hp pg dts lx => ?_⟩
    have bac : But g Ha Hc := (But.of sb).trans bc
    have lg1 : l1 ≠ g := (Ga.ne hl1).symm
    refine ⟨l1, p, _, _, rfl, rfl, bc _ _ fb lg1, hp, by rw [sizeLine_eq]; show 1 + xs.length ≤ _; omega, fun w hw => ?_⟩
    obtain ⟨Hd, ed, sd, fd'⟩ := gen Hc hw (.lst ([.ref t] ++ xs))
    rw [ed]
    clear ed
    have bad : But g Ha Hd := bac.trans (.of sd)
    have td := ta.but bad cg gr
    have Ed := (E9.but G3 nL1 ba).but G3 nL1 bad
    have its : Items K Hd ([.ref t] ++ xs) := Items.app (.cons ⟨deedP (da, dB, dv), .tup (bad _ _ hta tg) (.cons (.int _) (.cons (.int _) (.cons (.int _) .nil)))⟩ .nil) fun y hy => by
      obtain ⟨i, hi⟩ := List.getElem?_of_mem hy
      obtain ⟨dd, _, hd⟩ := dts.get hi
      exact ⟨dd, (hd.same hid_same).same sd⟩
    refine ⟨w, rfl, ⟨_, SqL.of fd'⟩, ?_⟩
    refine for_list (K := K) (a := w) (xs := [.ref t] ++ xs) (fun _ σ H' => ∃ y7 y8 : Option V, σ = [some (.ref g), some (.int k), some (.int (m : Nat)), some (.ref c), some (.ref L1), some (.ref L2), some (.ref t), y7, y8] ∧ Same Hd H')
      ⟨_, _, rfl, Same.refl _⟩ (fun i σ H' _ z => by
        obtain ⟨_, _, _, s'⟩ := z
        exact SqL.of (s' _ _ fd')) ?_ ?_
    · rintro i y σ M0 hi ⟨y7, y8, rfl, s0⟩
      obtain ⟨dd, hd⟩ := its y (List.mem_of_getElem? hi)
      refine ⟨_, rfl, _, rfl, _, rfl, k, c, y, dd, rs, kss, rfl, td.same s0, fine, n40, hd.same s0, fun M1 s1 => ?_⟩
      have s01 := s0.trans s1
      refine ⟨_, rfl, _, rfl, _, rfl, k, c, y, dd, rs, kss, rfl, k2, k9, td.same s01, fine, n1, n40, hd.same s01, fun M2 s2 => ?_⟩
      have s02 := s01.trans s2
      refine ⟨_, rfl, _, rfl, _, rfl, iteF ?_⟩
      refine ⟨_, rfl, _, rfl, _, rfl, k, c, y, dd, rs, kss, rfl, k2, k9, td.same s02, fine, n1, n40, hd.same s02, fun M3 s3 => ?_⟩
      exact ⟨_, rfl, _, rfl, _, rfl, iteF ⟨_, _, rfl, s02.trans s3⟩⟩
    · rintro σ M0 ⟨y7, y8, rfl, s0⟩
      refine ⟨_, rfl, _, rfl, k, c, rs, kss, rfl, k2, k9, td.same s0, fine, n1, n40, fun L9 ts9 M1 s1 _ E9' e9 => ?_⟩
      have s01 := s0.trans s1
      refine ⟨_, rfl, _, _, E9'.dp e9, (Ed.same s01).dp e1, sh, sh, _, rfl, ?_⟩
      rw [refl]
      refine iteT ⟨_, rfl, _, rfl, _, rfl, g, k, c, 400000, rs, kss, rfl, k2, k9, ((Gc.same sd).same s01).less (by omega), td.same s01, fine, n1, n40, cg, gr, fun M2 b2' => q _ ?_⟩
      exact b1.trans (b2.trans (b3.trans ((But.of s4).trans (b9.trans (ba.trans (bad.trans ((But.of s01).trans b2')))))))
end
end K03

namespace K03
open PySem PySem.Spec PyProof.Rows
open L2
open GL
theorem one_tab {H : Hp} {p a : Addr} {k : Int} (f : Fine k [[]]) (h : H p = some (.lst [.ref a])) (ha : H a = some (.lst [])) : Tab H p [a] [[]] :=
  Tab.made f rfl h fun i r ks h1 h2 => by
    match i, h1, h2 with
    | 0, h1, h2 => cases h1; cases h2; exact ha
    | i + 1, h1, h2 => simp at h1
theorem two_tab {H : Hp} {p a b : Addr} {k z : Int} (f : Fine k [[], [z]]) (h : H p = some (.lst [.ref a, .ref b])) (ha : H a = some (.lst [])) (hb : H b = some (.lst [.int z])) : Tab H p [a, b] [[], [z]] :=
  Tab.made f rfl h fun i r ks h1 h2 => by
    match i, h1, h2 with
    | 0, h1, h2 => cases h1; cases h2; exact ha
    | 1, h1, h2 => cases h1; cases h2; exact hb
    | i + 2, h1, h2 => simp at h1
def turnsD (n : Nat) : List PyData := (List.replicate n [deedP (0, 1, 1), deedP (0, 1, 0)]).flatten
theorem turns_dts {K : PySem.W.Frag} {H : Hp} {a b : Addr} (ha : H a = some (.tup (deedV3 (0, 1, 1)))) (hb : H b = some (.tup (deedV3 (0, 1, 0)))) : ∀ n, Dts K H (List.replicate n [V.ref a, .ref b]).flatten (turnsD n)
  | 0 => .nil
  | n + 1 => .cons (.tup ha (.cons (.int _) (.cons (.int _) (.cons (.int _) .nil)))) (.cons (.tup hb (.cons (.int _) (.cons (.int _) (.cons (.int _) .nil)))) (turns_dts ha hb n))
theorem turns_len : ∀ n, (turnsD n).length = 2 * n
  | 0 => rfl
  | n + 1 => by
    show (turnsD n).length + 1 + 1 = _
    rw [turns_len n]
    omega
theorem d1 : deedB 2 [[], [0]] (deedP (0, 1, 1)) = true := by decide +kernel
theorem d2 : deedB 2 [[], [1]] (deedP (0, 1, 0)) = true := by decide +kernel
theorem d3 : doD [[], [0]] (deedP (0, 1, 1)) = [[], [1]] := by decide +kernel
theorem d4 : doD [[], [1]] (deedP (0, 1, 0)) = [[], [0]] := by decide +kernel
theorem d5 : deedsL 9 [[]] = [] := by decide +kernel
theorem turns_follow : ∀ n i, followK 2 [[], [0]] (turnsD n) i = ([[], [0]], i + 2 * n)
  | 0, i => rfl
  | n + 1, i => by
    show followK 2 [[], [0]] (deedP (0, 1, 1) :: deedP (0, 1, 0) :: turnsD n) i = _
    rw [follow_cons, d1, if_pos rfl, d3, follow_cons, d2, if_pos rfl, d4, turns_follow n]
    congr 1
    omega
section
variable {P : Program} {w : World} {K : PySem.W.Frag} {mg : Str → Option Value} {base : Heap}
abbrev sWholeL : Stmt := topS 49
theorem scWholeL : FnScope ["_law_value"] ["_law_value"] (defScope sWholeL) := ⟨rfl, rfl, rfl, by decide +kernel, rfl, by decide +kernel, by decide +kernel⟩
theorem ok_wholeL {f : Addr} {fd : FuncData} (F : Fun K "_law_is_whole" "_law_is_whole" sWholeL f fd) (T : Bi mg) : FnOk P w K mg base CX0 1 f fd ["_law_value"] (spWhole K) := by
  refine F.ok scWholeL (fun vs H Q E h => ?_) (fun cdv A outer s H vs Q E hr h => ?_)
  · obtain ⟨x, d, rfl, _⟩ := h
    rfl
  · obtain ⟨x, d, rfl, hd, q⟩ := h
    refine ⟨_, pss_one (ps_ret (pe_and (pe_callB call_isi (by rfl) T.isinstance (by decide +kernel) (pa_cons (pv 0) (pa_cons (pe_bltn (v := .ty "int") (by rfl) T.int PyProof.Rows.boot_int rfl) pa_nil)))
      (pe_one (pe_not (pe_callB call_isi (by rfl) T.isinstance (by decide +kernel) (pa_cons (pv 0) (pa_cons (pe_bltn (v := .ty "bool") (by rfl) T.bool (by decide +kernel) rfl) pa_nil))))))), ?_⟩
    refine ⟨_, rfl, _, _, _, _, _, rfl, .ty "int", hd.ty, kit_int d, _, rfl, ?_⟩
    have z : whole d = (isInt d && !isBool d) := rfl
    cases e : isInt d with
    | false =>
      refine iteF ?_
      rw [z, e] at q
      exact q
    | true =>
      refine iteT ⟨_, rfl, _, _, _, _, _, rfl, .ty "bool", hd.ty, kit_bool d, _, rfl, ?_⟩
      rw [z, e] at q
      exact q
abbrev sLaw : Stmt := topS 64
abbrev nLaw : List Str := ["_law_script", "_law_index", "_law_turns"]
theorem scLaw : FnScope nLaw ["_law_script"] (defScope sLaw) := ⟨rfl, rfl, rfl, by decide +kernel, rfl, by decide +kernel, by decide +kernel⟩
theorem ok_law {f : Addr} {fd : FuncData} (F : Fun K "law" "law" sLaw f fd) (T : Bi mg) (Udeeds : Use P w K mg base "deeds" ["kinds", "company"] spDeeds 6) (Uled : Use P w K mg base "led" ["kinds", "company", "road"] (spLedP K) 7) (Uisroad : Use P w K mg base "is_road" ["kinds", "company", "value"] (spIsRoad K) 7) (ULgenerator : Use P w K mg base "_law_generator" ["_law_script", "_law_index"] (spGen K) 2) (ULright : UseG P w K mg base "_law_right" ["_law_generator_here"] spRight3 9) : FnG P w K mg base CX0 10 f fd ["_law_script"] (spLaw K) := by
  refine FnG.mk' F scLaw (fun vs H Q E h => ?_) (fun cdv A outer s H vs Q E hgd hr h => ?_)
  · obtain ⟨a, ns, rfl, _⟩ := h
    rfl
  · obtain ⟨a, ns, rfl, hS, q⟩ := h
    have hgd' : (A.deeper (envOfC "law" (defScope sLaw) s.heap.objs.size f cdv)).guards = some [] := hgd
    refine ⟨_, (pss_cons (ps_for PassesOwn.never rfl (pi_range1 (by rfl) T.range (pa_cons pe_int pa_nil)) (pg_name (i := 1) scLaw.nd rfl (Or.inl rfl))
        (pss_one (ps_if (pt_not (pt_val (pe_useG ULright hgd' hr (by rfl) (pa_cons (pe_use ULgenerator (hr.mono (by decide)) (by rfl) (pa_cons (pv 0) (pa_cons (pv 1) pa_nil))) pa_nil))))
          (pss_one (ps_ret pe_bl)) pss_nil)))
      (pss_cons (ps_set (i := 2) scLaw.nd rfl (Or.inl rfl) (pe_op op_rep (pe_lst (pa_cons (pe_tup (pa_cons pe_int (pa_cons pe_int (pa_cons pe_int pa_nil)))) (pa_cons (pe_tup (pa_cons pe_int (pa_cons pe_int (pa_cons pe_int pa_nil)))) pa_nil))) pe_int))
      (pss_one (ps_ret (pe_and (pe_cmpR (op_eqD hr.units) (pe_use Uled (hr.mono (by decide)) (by rfl) (pa_cons pe_int (pa_cons (pe_lst (pa_cons (pe_lst pa_nil) (pa_cons (pe_lst (pa_cons pe_int pa_nil)) pa_nil))) (pa_cons (pv 2) pa_nil)))) (pe_lst (pa_cons (pe_lst pa_nil) (pa_cons (pe_lst (pa_cons pe_int pa_nil)) pa_nil))) (nomark _)) (pe_and (pe_cmpR op_isBl (pe_use Uisroad (hr.mono (by decide)) (by rfl) (pa_cons pe_int (pa_cons (pe_lst (pa_cons (pe_lst pa_nil) (pa_cons (pe_lst (pa_cons pe_int pa_nil)) pa_nil))) (pa_cons (pv 2) pa_nil)))) pe_bl (nomark _)) (pe_one (pe_cmpR (op_eqNil hr.units) (pe_use Udeeds (hr.mono (by decide)) (by rfl) (pa_cons pe_int (pa_cons (pe_lst (pa_cons (pe_lst pa_nil) pa_nil)) pa_nil))) (pe_lst pa_nil) (nomark _))))))))), ?_⟩
    refine ⟨3, rfl, by decide, by decide, for_range (lo := 0) (n := (3 : Int).toNat) (fun i σ H' => ∃ v1 : Option V, σ = [some (.ref a), v1, none] ∧ Same H H') ⟨_, rfl, Same.refl _⟩ ?_ ?_⟩
    · rintro i σ H0 hi ⟨v1, rfl, s0⟩
      have i4 : i < 3 := hi
      refine ⟨_, rfl, _, rfl, a, ns, i, (show [V.ref a, V.int (0 + (i : Int))] = [V.ref a, V.int (i : Int)] by rw [Int.zero_add]), by omega, s0.seq hS, fun g H1 sg ng G1 => ?_⟩
      refine ⟨g, rfl, G1, fun H2 b2 => ⟨_, rfl, iteF ⟨_, rfl, fun b o e => ?_⟩⟩⟩
      have h0 := s0 b o e
      exact b2 _ _ (sg _ _ h0) (ne_of_none h0 ng)
    rintro σ J0 ⟨v1, rfl, s0⟩
    refine ⟨(by show 3 ≤ sizeLine; decide), fun a1 h1 => ?_⟩
    obtain ⟨J1, e1, t1, f1⟩ := gen J0 h1 (.tup [.int 0, .int 1, .int 1])
    rw [e1]
    clear e1
    refine ⟨(by show 3 ≤ sizeLine; decide), fun a2 h2 => ?_⟩
    obtain ⟨J2, e2, t2, f2⟩ := gen J1 h2 (.tup [.int 0, .int 1, .int 0])
    rw [e2]
    clear e2
    refine ⟨(by show 2 ≤ sizeLine; decide), fun a3 h3 => ?_⟩
    obtain ⟨J3, e3, t3, f3⟩ := gen J2 h3 (.lst [.ref a1, .ref a2])
    rw [e3]
    clear e3
    refine ⟨a3, 500, _, rfl, rfl, f3, by decide, by decide, (by show 2 * 500 ≤ sizeLine; decide), fun a4 h4 => ?_⟩
    obtain ⟨J4, e4, t4, f4⟩ := gen J3 h4 (.lst (List.replicate 500 [V.ref a1, .ref a2]).flatten)
    have e4' : upd J3 a4 (.lst (List.replicate (500 : Int).toNat [V.ref a1, .ref a2]).flatten) = J4 := e4
    rw [e4']
    clear e4 e4'
    have g1 : J4 a1 = some (.tup (deedV3 (0, 1, 1))) := t4 _ _ (t3 _ _ (t2 _ _ f1))
    have g2 : J4 a2 = some (.tup (deedV3 (0, 1, 0))) := t4 _ _ (t3 _ _ f2)
    have td := turns_dts (K := K) g1 g2 500
    have tl : (turnsD 500).length = 1000 := turns_len 500
    have lx : (List.replicate 500 [V.ref a1, .ref a2]).flatten.length = 1000 := by rw [td.length, tl]
    have fo := turns_follow 500 0
    have fo2 : (followK 2 [[], [0]] (turnsD 500) 0).2 = (turnsD 500).length := by rw [fo, tl]
    have rd : roadD 2 [[], [0]] (.list (turnsD 500)) = true := by
      show decide ((followK 2 [[], [0]] (turnsD 500) 0).2 = (turnsD 500).length) = true
      exact decide_eq_true fo2
    generalize (List.replicate 500 [V.ref a1, .ref a2]).flatten = XS at f4 td lx
    generalize turnsD 500 = DS at td tl fo fo2 rd
    have fr : Fine 2 [[], [0]] := fine_of (by decide +kernel)
    refine ⟨Nat.zero_le _, fun a5 h5 => ?_⟩
    obtain ⟨J5, e5, t5, f5⟩ := gen J4 h5 (.lst [])
    rw [e5]
    clear e5
    refine ⟨one_le, fun a6 h6 => ?_⟩
    obtain ⟨J6, e6, t6, f6⟩ := gen J5 h6 (.lst [.int 0])
    rw [e6]
    clear e6
    refine ⟨(by show 2 ≤ sizeLine; decide), fun a7 h7 => ?_⟩
    obtain ⟨J7, e7, t7, f7⟩ := gen J6 h7 (.lst [.ref a5, .ref a6])
    rw [e7]
    clear e7
    have T1 : Tab J7 a7 [a5, a6] [[], [0]] := two_tab fr f7 (t7 _ _ (t6 _ _ f5)) (t7 _ _ f6)
    have s47 := t5.trans (t6.trans t7)
    refine ⟨_, rfl, 2, a7, a4, [a5, a6], [[], [0]], XS, DS, rfl, by decide, by decide, T1, fr, by decide, by decide, s47 _ _ f4, Dts.same s47 _ _ td, by omega, fo2, fun p ps J8 s8 u8 _ _ _ => ?_⟩
    have u8' : Tab J8 p ps [[], [0]] := by
      have := u8
      rw [fo] at this
      exact this
    refine ⟨Nat.zero_le _, fun a9 h9 => ?_⟩
    obtain ⟨J9, e9, t9, f9⟩ := gen J8 h9 (.lst [])
    rw [e9]
    clear e9
    refine ⟨one_le, fun a10 h10 => ?_⟩
    obtain ⟨K1, e10, t10, f10⟩ := gen J9 h10 (.lst [.int 0])
    rw [e10]
    clear e10
    refine ⟨(by show 2 ≤ sizeLine; decide), fun a11 h11 => ?_⟩
    obtain ⟨K2, e11, t11, f11⟩ := gen K1 h11 (.lst [.ref a9, .ref a10])
    rw [e11]
    clear e11
    have T2 : Tab K2 a11 [a9, a10] [[], [0]] := two_tab fr f11 (t11 _ _ (t10 _ _ f9)) (t11 _ _ f10)
    refine ⟨tabP [[], [0]], tabP [[], [0]], (u8'.same (t9.trans (t10.trans t11))).dp, T2.dp, shaped_tab _, shaped_tab _, _, rfl, ?_⟩
    rw [eqv_tab, decide_eq_true rfl]
    refine iteT ?_
    refine ⟨Nat.zero_le _, fun a12 h12 => ?_⟩
    obtain ⟨K3, e12, t12, f12⟩ := gen K2 h12 (.lst [])
    rw [e12]
    clear e12
    refine ⟨one_le, fun a13 h13 => ?_⟩
    obtain ⟨K4, e13, t13, f13⟩ := gen K3 h13 (.lst [.int 0])
    rw [e13]
    clear e13
    refine ⟨(by show 2 ≤ sizeLine; decide), fun a14 h14 => ?_⟩
    obtain ⟨K5, e14, t14, f14⟩ := gen K4 h14 (.lst [.ref a12, .ref a13])
    rw [e14]
    clear e14
    have T3 : Tab K5 a14 [a12, a13] [[], [0]] := two_tab fr f14 (t14 _ _ (t13 _ _ f12)) (t14 _ _ f13)
    have s4k := s47.trans (s8.trans ((t9.trans (t10.trans t11)).trans (t12.trans (t13.trans t14))))
    refine ⟨_, rfl, 2, a14, .ref a4, .list DS, [a12, a13], [[], [0]], rfl, by decide, by decide, T3, fr, by decide, by decide, .lst (s4k _ _ f4) (Dts.same s4k _ _ td), (fun ds e => by injection e with e; rw [← e]; omega), fun K6 _ => ?_⟩
    rw [rd]
    refine ⟨_, _, rfl, rfl, _, rfl, iteT ?_⟩
    refine ⟨Nat.zero_le _, fun a15 h15 => ?_⟩
    obtain ⟨K7, e15, t15, f15⟩ := gen K6 h15 (.lst [])
    rw [e15]
    clear e15
    refine ⟨one_le, fun a16 h16 => ?_⟩
    obtain ⟨K8, e16, t16, f16⟩ := gen K7 h16 (.lst [.ref a15])
    rw [e16]
    clear e16
    have fo9 : Fine 9 [[]] := fine_of (by decide +kernel)
    refine ⟨9, a16, [a15], [[]], rfl, by decide, by decide, one_tab fo9 f16 (t16 _ _ f15), fo9, by decide, by decide, fun L ts K9 _ _ E e => ?_⟩
    rw [d5] at e
    have ets : ts = [] := List.map_eq_nil_iff.mp e
    subst ets
    refine ⟨Nat.zero_le _, fun a17 h17 => ?_⟩
    obtain ⟨L1, e17, t17, f17⟩ := gen K9 h17 (.lst [])
    rw [e17]
    clear e17
    exact ⟨L, a17, _, rfl, rfl, SqL.of (t17 _ _ E.top), SqL.of f17, q _⟩
end
end K03

namespace K03
open PySem PySem.Spec PyProof.Rows L2 GL
/-- a def of the text stands under its name -/
def Has (K : PySem.W.Frag) (x : Str) (st : Stmt) : Prop := ∃ (f : Addr) (oc : Value) (od : Option Addr) (kV dc pm : Value) (an : Option Addr) (cd ct : Value) (sl : Array (Option Value)), PySem.W.nsIn K mainGlobals x = some (some (.ref f)) ∧
  K.lookup f = some ⟨oc, od, .func (PySem.W.fnOf x x (defArgs st) (defBody st) (defScope st) .none kV dc pm an cd ct), sl⟩ ∧ PySem.W.codeIn K cd x = true ∧ PySem.W.keepIn K (.ref f) = true
theorem Has.fn {K : PySem.W.Frag} {x : Str} {st : Stmt} {h : Heap} {mg : Str → Option Value} (H : Has K x st) (X : K.In h) (G : h.Ns mainGlobals mg) : ∃ (f : Addr) (fd : FuncData), Fun K x x st f fd ∧ mg x = some (.ref f) := by
  obtain ⟨f, oc, od, kV, dc, pm, an, cd, ct, sl, a, l, c, k⟩ := H
  exact ⟨f, _, fun_mk (st := st) l c k, PySem.W.mg_of X G a⟩
theorem has_mk {K : PySem.W.Frag} {x : Str} {st : Stmt} {f : Addr} {oc kV dc pm cd ct : Value} {od an : Option Addr} {sl : Array (Option Value)} (a : PySem.W.nsIn K mainGlobals x = some (some (.ref f)))
    (l : K.lookup f = some ⟨oc, od, .func (PySem.W.fnOf x x (defArgs st) (defBody st) (defScope st) .none kV dc pm an cd ct), sl⟩) (c : PySem.W.codeIn K cd x = true) (k : PySem.W.keepIn K (.ref f) = true) : Has K x st := ⟨f, oc, od, kV, dc, pm, an, cd, ct, sl, a, l, c, k⟩
/-- a written number of the text -/
def HasInt (K : PySem.W.Frag) (x : Str) (n : Int) : Prop := ∃ t, PySem.W.nsIn K mainGlobals x = some (some (.int n t))
theorem hasInt_mk {K : PySem.W.Frag} {x : Str} {n : Int} {t : Tok} (a : PySem.W.nsIn K mainGlobals x = some (some (.int n t))) : HasInt K x n := ⟨t, a⟩
def HasNot (K : PySem.W.Frag) (x : Str) : Prop := PySem.W.nsIn K mainGlobals x = some none
theorem all_mk {l : PySem.W.OpenLaw} {w : World} {K : PySem.W.Frag} {h : Heap} {mg : Str → Option Value} {fa : Addr} (X : K.In h) (G : h.Ns mainGlobals mg) (hfa : mg "law" = some (.ref fa))
    (h13 : Has K "is_whole" sWhole) (h15 : Has K "are_kinds" sKinds) (h21 : Has K "check_kinds" sCheck) (h14 : Has K "is_below" sBelow) (h16 : Has K "is_row" sRow) (h17 : Has K "is_company_of" sCompOf) (h22 : Has K "check_company" sCheckC) (h27 : Has K "ties_of" sTies) (h29 : Has K "are_alike" sAreAlike) (h30 : Has K "couples_alike" sCplAlike) (h39 : Has K "deeds" sDeeds) (h28 : Has K "company_with" sCompWith) (h18 : Has K "is_couple" sCoupleD) (h19 : Has K "is_couple_with_kind" sCplK) (h33 : Has K "is_deed_now" sDeedNow) (h34 : Has K "followed" sFollowed) (h41 : Has K "led" sLedP) (h42 : Has K "is_road" sIsRoad) (h46 : Has K "_law_cell" sCell) (h47 : Has K "_law_generator" sGen) (h38 : Has K "is_deed" sIsDeed) (h44 : Has K "_law_hash" sHash) (h45 : Has K "_law_random" sRandom) (h48 : Has K "_law_yes" sYes) (h50 : Has K "_law_tie" sTie) (h53 : Has K "_law_named" sNamed) (h55 : Has K "_law_order" sOrder) (h56 : Has K "_law_company" sCompany) (h51 : Has K "_law_alike" sAlike2) (h52 : Has K "_law_couples" sCouples) (h57 : Has K "_law_deeds" sDeedsM) (h49 : Has K "_law_is_whole" sWholeL) (h59 : Has K "_law_is_deed" sIsDeedL) (h60 : Has K "_law_bent" sBentL) (h24 : Has K "check_couple" sCheckCp) (h35 : Has K "stand_alike" sStand) (h20 : Has K "is_lot" sLot) (h25 : Has K "check_lot" sCheckL) (h31 : Has K "company_among" sAmongC) (h36 : Has K "among" sAmong) (h23 : Has K "check_companies" sCheckCs) (h32 : Has K "couples_unlike" sUnlikeC) (h37 : Has K "differing" sDiffer) (h40 : Has K "done" sDone) (h54 : Has K "_law_retied" sRetied) (h61 : Has K "_law_deed_right" sDeedRight) (h58 : Has K "_law_road" sRoadL) (h62 : Has K "_law_roads_right" sRoadsRight) (h63 : Has K "_law_right" sRight3) (h64 : Has K "law" sLaw)
    (c0 : HasInt K "LEAST_KINDS" 2) (c1 : HasInt K "MOST_KINDS" 9) (c2 : HasInt K "MOST_PEOPLE" 40)
    (z0 : HasNot K "int") (z1 : HasNot K "len") (z2 : HasNot K "sum") (z3 : HasNot K "max") (z4 : HasNot K "min") (z5 : HasNot K "range") (z6 : HasNot K "isinstance") (z7 : HasNot K "bool") (z8 : HasNot K "list") (z9 : HasNot K "tuple") (z10 : HasNot K "all") (z11 : HasNot K "enumerate") (z12 : HasNot K "repr") (z13 : HasNot K "zip") (z14 : HasNot K "any") (z15 : HasNot K "set") (z16 : HasNot K "sorted")
    (m0 : PySem.W.nsIn K mainGlobals "combinations" = some (some (.type "itertools.combinations")))
    :
    ∃ fd : FuncData, (∀ (s : Shared) (v : Value), BindsTo s fd ⟨[v], []⟩ [("_law_script", v)]) ∧ ∀ base : Heap, K.In base → base.Ns mainGlobals mg → FnG l.prog w K mg base CX0 10 fa fd ["_law_script"] (spLaw K) := by
  have nn : ∀ {x : Str}, HasNot K x → mg x = none := fun z => PySem.W.mg_none_of X G z
  have T : Bi mg := ⟨nn z0, nn z1, nn z2, nn z3, nn z4, nn z5, nn z6, nn z7, nn z8, nn z9, nn z10, nn z11, nn z12, nn z13, nn z14, nn z15, nn z16⟩
  have IM : Im mg := PySem.W.mg_of X G m0
  have C : Cs mg := ⟨let ⟨t, a⟩ := c0; ⟨t, PySem.W.mg_of X G a⟩, let ⟨t, a⟩ := c1; ⟨t, PySem.W.mg_of X G a⟩, let ⟨t, a⟩ := c2; ⟨t, PySem.W.mg_of X G a⟩⟩
  obtain ⟨f13, fd13, F13, g13⟩ := h13.fn X G
  obtain ⟨f15, fd15, F15, g15⟩ := h15.fn X G
  obtain ⟨f21, fd21, F21, g21⟩ := h21.fn X G
  obtain ⟨f14, fd14, F14, g14⟩ := h14.fn X G
  obtain ⟨f16, fd16, F16, g16⟩ := h16.fn X G
  obtain ⟨f17, fd17, F17, g17⟩ := h17.fn X G
  obtain ⟨f22, fd22, F22, g22⟩ := h22.fn X G
  obtain ⟨f27, fd27, F27, g27⟩ := h27.fn X G
  obtain ⟨f29, fd29, F29, g29⟩ := h29.fn X G
  obtain ⟨f30, fd30, F30, g30⟩ := h30.fn X G
  obtain ⟨f39, fd39, F39, g39⟩ := h39.fn X G
  obtain ⟨f28, fd28, F28, g28⟩ := h28.fn X G
  obtain ⟨f18, fd18, F18, g18⟩ := h18.fn X G
  obtain ⟨f19, fd19, F19, g19⟩ := h19.fn X G
  obtain ⟨f33, fd33, F33, g33⟩ := h33.fn X G
  obtain ⟨f34, fd34, F34, g34⟩ := h34.fn X G
  obtain ⟨f41, fd41, F41, g41⟩ := h41.fn X G
  obtain ⟨f42, fd42, F42, g42⟩ := h42.fn X G
  obtain ⟨f46, fd46, F46, g46⟩ := h46.fn X G
  obtain ⟨f47, fd47, F47, g47⟩ := h47.fn X G
  obtain ⟨f38, fd38, F38, g38⟩ := h38.fn X G
  obtain ⟨f44, fd44, F44, g44⟩ := h44.fn X G
  obtain ⟨f45, fd45, F45, g45⟩ := h45.fn X G
  obtain ⟨f48, fd48, F48, g48⟩ := h48.fn X G
  obtain ⟨f50, fd50, F50, g50⟩ := h50.fn X G
  obtain ⟨f53, fd53, F53, g53⟩ := h53.fn X G
  obtain ⟨f55, fd55, F55, g55⟩ := h55.fn X G
  obtain ⟨f56, fd56, F56, g56⟩ := h56.fn X G
  obtain ⟨f51, fd51, F51, g51⟩ := h51.fn X G
  obtain ⟨f52, fd52, F52, g52⟩ := h52.fn X G
  obtain ⟨f57, fd57, F57, g57⟩ := h57.fn X G
  obtain ⟨f49, fd49, F49, g49⟩ := h49.fn X G
  obtain ⟨f59, fd59, F59, g59⟩ := h59.fn X G
  obtain ⟨f60, fd60, F60, g60⟩ := h60.fn X G
  obtain ⟨f24, fd24, F24, g24⟩ := h24.fn X G
  obtain ⟨f35, fd35, F35, g35⟩ := h35.fn X G
  obtain ⟨f20, fd20, F20, g20⟩ := h20.fn X G
  obtain ⟨f25, fd25, F25, g25⟩ := h25.fn X G
  obtain ⟨f31, fd31, F31, g31⟩ := h31.fn X G
  obtain ⟨f36, fd36, F36, g36⟩ := h36.fn X G
  obtain ⟨f23, fd23, F23, g23⟩ := h23.fn X G
  obtain ⟨f32, fd32, F32, g32⟩ := h32.fn X G
  obtain ⟨f37, fd37, F37, g37⟩ := h37.fn X G
  obtain ⟨f40, fd40, F40, g40⟩ := h40.fn X G
  obtain ⟨f54, fd54, F54, g54⟩ := h54.fn X G
  obtain ⟨f61, fd61, F61, g61⟩ := h61.fn X G
  obtain ⟨f58, fd58, F58, g58⟩ := h58.fn X G
  obtain ⟨f62, fd62, F62, g62⟩ := h62.fn X G
  obtain ⟨f63, fd63, F63, g63⟩ := h63.fn X G
  have b13 := F13.binds (ps := ["value"]) fun _ _ _ _ _ _ us hl => match us, hl with | [_], _ => rfl
  have b15 := F15.binds (ps := ["value"]) fun _ _ _ _ _ _ us hl => match us, hl with | [_], _ => rfl
  have b21 := F21.binds (ps := ["kinds"]) fun _ _ _ _ _ _ us hl => match us, hl with | [_], _ => rfl
  have b14 := F14.binds (ps := ["value", "bound"]) fun _ _ _ _ _ _ us hl => match us, hl with | [_, _], _ => rfl
  have b16 := F16.binds (ps := ["kinds", "many", "value"]) fun _ _ _ _ _ _ us hl => match us, hl with | [_, _, _], _ => rfl
  have b17 := F17.binds (ps := ["kinds", "value"]) fun _ _ _ _ _ _ us hl => match us, hl with | [_, _], _ => rfl
  have b22 := F22.binds (ps := ["kinds", "company"]) fun _ _ _ _ _ _ us hl => match us, hl with | [_, _], _ => rfl
  have b27 := F27.binds (ps := ["company"]) fun _ _ _ _ _ _ us hl => match us, hl with | [_], _ => rfl
  have b29 := F29.binds (ps := ["ties", "one", "other"]) fun _ _ _ _ _ _ us hl => match us, hl with | [_, _, _], _ => rfl
  have b30 := F30.binds (ps := ["ties"]) fun _ _ _ _ _ _ us hl => match us, hl with | [_], _ => rfl
  have b39 := F39.binds (ps := ["kinds", "company"]) fun _ _ _ _ _ _ us hl => match us, hl with | [_, _], _ => rfl
  have b28 := F28.binds (ps := ["ties"]) fun _ _ _ _ _ _ us hl => match us, hl with | [_], _ => rfl
  have b18 := F18.binds (ps := ["many", "value"]) fun _ _ _ _ _ _ us hl => match us, hl with | [_, _], _ => rfl
  have b19 := F19.binds (ps := ["kinds", "many", "value"]) fun _ _ _ _ _ _ us hl => match us, hl with | [_, _, _], _ => rfl
  have b33 := F33.binds (ps := ["kinds", "ties", "value"]) fun _ _ _ _ _ _ us hl => match us, hl with | [_, _, _], _ => rfl
  have b34 := F34.binds (ps := ["kinds", "company", "road"]) fun _ _ _ _ _ _ us hl => match us, hl with | [_, _, _], _ => rfl
  have b41 := F41.binds (ps := ["kinds", "company", "road"]) fun _ _ _ _ _ _ us hl => match us, hl with | [_, _, _], _ => rfl
  have b42 := F42.binds (ps := ["kinds", "company", "value"]) fun _ _ _ _ _ _ us hl => match us, hl with | [_, _, _], _ => rfl
  have b46 := F46.binds (ps := ["_law_script", "_law_index"]) fun _ _ _ _ _ _ us hl => match us, hl with | [_, _], _ => rfl
  have b47 := F47.binds (ps := ["_law_script", "_law_index"]) fun _ _ _ _ _ _ us hl => match us, hl with | [_, _], _ => rfl
  have b38 := F38.binds (ps := ["kinds", "company", "value"]) fun _ _ _ _ _ _ us hl => match us, hl with | [_, _, _], _ => rfl
  have b44 := F44.binds (ps := ["_law_seed", "_law_index"]) fun _ _ _ _ _ _ us hl => match us, hl with | [_, _], _ => rfl
  have b45 := F45.binds (ps := ["_law_generator_here", "_law_bound"]) fun _ _ _ _ _ _ us hl => match us, hl with | [_, _], _ => rfl
  have b48 := F48.binds (ps := ["_law_told", "_law_due"]) fun _ _ _ _ _ _ us hl => match us, hl with | [_, _], _ => rfl
  have b50 := F50.binds (ps := ["_law_company_here", "_law_one", "_law_other"]) fun _ _ _ _ _ _ us hl => match us, hl with | [_, _, _], _ => rfl
  have b53 := F53.binds (ps := ["_law_company_here", "_law_order_here"]) fun _ _ _ _ _ _ us hl => match us, hl with | [_, _], _ => rfl
  have b55 := F55.binds (ps := ["_law_generator_here", "_law_many"]) fun _ _ _ _ _ _ us hl => match us, hl with | [_, _], _ => rfl
  have b56 := F56.binds (ps := ["_law_generator_here", "_law_kinds", "_law_many"]) fun _ _ _ _ _ _ us hl => match us, hl with | [_, _, _], _ => rfl
  have b51 := F51.binds (ps := ["_law_company_here", "_law_one", "_law_other"]) fun _ _ _ _ _ _ us hl => match us, hl with | [_, _, _], _ => rfl
  have b52 := F52.binds (ps := ["_law_many"]) fun _ _ _ _ _ _ us hl => match us, hl with | [_], _ => rfl
  have b57 := F57.binds (ps := ["_law_kinds", "_law_company_here"]) fun _ _ _ _ _ _ us hl => match us, hl with | [_, _], _ => rfl
  have b49 := F49.binds (ps := ["_law_value"]) fun _ _ _ _ _ _ us hl => match us, hl with | [_], _ => rfl
  have b59 := F59.binds (ps := ["_law_kinds", "_law_company_here", "_law_value"]) fun _ _ _ _ _ _ us hl => match us, hl with | [_, _, _], _ => rfl
  have b60 := F60.binds (ps := ["_law_generator_here", "_law_kinds", "_law_company_here", "_law_deed"]) fun _ _ _ _ _ _ us hl => match us, hl with | [_, _, _, _], _ => rfl
  have b24 := F24.binds (ps := ["company", "couple"]) fun _ _ _ _ _ _ us hl => match us, hl with | [_, _], _ => rfl
  have b35 := F35.binds (ps := ["kinds", "company", "couple"]) fun _ _ _ _ _ _ us hl => match us, hl with | [_, _, _], _ => rfl
  have b20 := F20.binds (ps := ["many", "value"]) fun _ _ _ _ _ _ us hl => match us, hl with | [_, _], _ => rfl
  have b25 := F25.binds (ps := ["company", "lot"]) fun _ _ _ _ _ _ us hl => match us, hl with | [_, _], _ => rfl
  have b31 := F31.binds (ps := ["company", "lot"]) fun _ _ _ _ _ _ us hl => match us, hl with | [_, _], _ => rfl
  have b36 := F36.binds (ps := ["kinds", "company", "lot"]) fun _ _ _ _ _ _ us hl => match us, hl with | [_, _, _], _ => rfl
  have b23 := F23.binds (ps := ["kinds", "one", "other"]) fun _ _ _ _ _ _ us hl => match us, hl with | [_, _, _], _ => rfl
  have b32 := F32.binds (ps := ["one", "other"]) fun _ _ _ _ _ _ us hl => match us, hl with | [_, _], _ => rfl
  have b37 := F37.binds (ps := ["kinds", "one", "other"]) fun _ _ _ _ _ _ us hl => match us, hl with | [_, _, _], _ => rfl
  have b40 := F40.binds (ps := ["kinds", "company", "deed"]) fun _ _ _ _ _ _ us hl => match us, hl with | [_, _, _], _ => rfl
  have b54 := F54.binds (ps := ["_law_company_here", "_law_deed"]) fun _ _ _ _ _ _ us hl => match us, hl with | [_, _], _ => rfl
  have b61 := F61.binds (ps := ["_law_generator_here", "_law_kinds", "_law_company_here", "_law_deed"]) fun _ _ _ _ _ _ us hl => match us, hl with | [_, _, _, _], _ => rfl
  have b58 := F58.binds (ps := ["_law_generator_here", "_law_kinds", "_law_company_here", "_law_most"]) fun _ _ _ _ _ _ us hl => match us, hl with | [_, _, _, _], _ => rfl
  have b62 := F62.binds (ps := ["_law_generator_here", "_law_kinds", "_law_company_here"]) fun _ _ _ _ _ _ us hl => match us, hl with | [_, _, _], _ => rfl
  have b63 := F63.binds (ps := ["_law_generator_here"]) fun _ _ _ _ _ _ us hl => match us, hl with | [_], _ => rfl
  have kw0 : KBinds K fd40 ["kinds", "company", "deed"] ["deed", "company", "kinds"] gQ210 gQV210 := by
    obtain ⟨oc, od, kV, doc, pm, an, cdv, ct, osl, rfl, lk, hcd⟩ := F40.ex
    refine ⟨fun s us ws _ hl => ?_, fun a b => gQ210_rel a b⟩
    match us, ws, hl with
    | [], [v0, v1, v2], _ => exact .of_eq rfl
  have kw1 : KBinds K fd41 ["kinds", "company", "road"] ["road", "company", "kinds"] gQ210 gQV210 := by
    obtain ⟨oc, od, kV, doc, pm, an, cdv, ct, osl, rfl, lk, hcd⟩ := F41.ex
    refine ⟨fun s us ws _ hl => ?_, fun a b => gQ210_rel a b⟩
    match us, ws, hl with
    | [], [v0, v1, v2], _ => exact .of_eq rfl
  have kw2 : KBinds K fd42 ["kinds", "company", "value"] ["value", "company", "kinds"] gQ210 gQV210 := by
    obtain ⟨oc, od, kV, doc, pm, an, cdv, ct, osl, rfl, lk, hcd⟩ := F42.ex
    refine ⟨fun s us ws _ hl => ?_, fun a b => gQ210_rel a b⟩
    match us, ws, hl with
    | [], [v0, v1, v2], _ => exact .of_eq rfl
  have kw3 : KBinds K fd38 ["kinds", "company", "value"] ["value", "company", "kinds"] gQ210 gQV210 := by
    obtain ⟨oc, od, kV, doc, pm, an, cdv, ct, osl, rfl, lk, hcd⟩ := F38.ex
    refine ⟨fun s us ws _ hl => ?_, fun a b => gQ210_rel a b⟩
    match us, ws, hl with
    | [], [v0, v1, v2], _ => exact .of_eq rfl
  have kw4 : KBinds K fd39 ["kinds", "company"] ["company", "kinds"] gQ10 gQV10 := by
    obtain ⟨oc, od, kV, doc, pm, an, cdv, ct, osl, rfl, lk, hcd⟩ := F39.ex
    refine ⟨fun s us ws _ hl => ?_, fun a b => gQ10_rel a b⟩
    match us, ws, hl with
    | [], [v0, v1], _ => exact .of_eq rfl
  obtain ⟨fl, oc, od, kV, dc, pm, an, cd, ct, sl, al, ll, cl, kl⟩ := h64
  have e := hfa.symm.trans (PySem.W.mg_of X G al)
  cases e
  refine ⟨PySem.W.fnOf "law" "law" (defArgs sLaw) (defBody sLaw) (defScope sLaw) .none kV dc pm an cd ct, fun s v => .of_eq rfl, fun base _ _ => ?_⟩
  have U13 : Use l.prog w K mg base "is_whole" ["value"] (spWhole K) 1 := ⟨f13, fd13, ok_whole F13 T, g13, F13.kp, b13⟩
  have U15 : Use l.prog w K mg base "are_kinds" ["value"] (spKinds K) 2 := ⟨f15, fd15, ok_kinds F15 C U13, g15, F15.kp, b15⟩
  have U21 : Use l.prog w K mg base "check_kinds" ["kinds"] spCheck 3 := ⟨f21, fd21, ok_check F21 U15, g21, F21.kp, b21⟩
  have U14 : Use l.prog w K mg base "is_below" ["value", "bound"] (spBelow K) 2 := ⟨f14, fd14, ok_below F14 U13, g14, F14.kp, b14⟩
  have U16 : Use l.prog w K mg base "is_row" ["kinds", "many", "value"] (spRow K) 3 := ⟨f16, fd16, ok_row F16 T U14, g16, F16.kp, b16⟩
  have U17 : Use l.prog w K mg base "is_company_of" ["kinds", "value"] (spCompOf K) 4 := ⟨f17, fd17, ok_compOf F17 T C U16, g17, F17.kp, b17⟩
  have U22 : Use l.prog w K mg base "check_company" ["kinds", "company"] (spCheckC K) 5 := ⟨f22, fd22, ok_checkC F22 U21 U17, g22, F22.kp, b22⟩
  have U27 : Use l.prog w K mg base "ties_of" ["company"] spTies 1 := ⟨f27, fd27, ok_ties F27 T, g27, F27.kp, b27⟩
  have U29 : Use l.prog w K mg base "are_alike" ["ties", "one", "other"] spAreAlike 1 := ⟨f29, fd29, ok_areAlike F29 T, g29, F29.kp, b29⟩
  have U30 : Use l.prog w K mg base "couples_alike" ["ties"] spCplAlike 2 := ⟨f30, fd30, ok_cplAlike F30 T IM U29, g30, F30.kp, b30⟩
  have U39 : Use l.prog w K mg base "deeds" ["kinds", "company"] spDeeds 6 := ⟨f39, fd39, ok_deeds F39 T U22 U27 U30, g39, F39.kp, b39⟩
  have KW4 : UseK l.prog w K mg base "deeds" ["kinds", "company"] ["company", "kinds"] gQ10 gQV10 spDeeds 6 := ⟨f39, fd39, ok_deeds F39 T U22 U27 U30, g39, F39.kp, kw4⟩
  have U28 : Use l.prog w K mg base "company_with" ["ties"] spCompWith 1 := ⟨f28, fd28, ok_compWith F28 T, g28, F28.kp, b28⟩
  have U18 : Use l.prog w K mg base "is_couple" ["many", "value"] (spCoupleD K) 3 := ⟨f18, fd18, ok_coupleD F18 T U14, g18, F18.kp, b18⟩
  have U19 : Use l.prog w K mg base "is_couple_with_kind" ["kinds", "many", "value"] (spCplK K) 4 := ⟨f19, fd19, ok_cplK F19 T U14 U18, g19, F19.kp, b19⟩
  have U33 : Use l.prog w K mg base "is_deed_now" ["kinds", "ties", "value"] (spDeedNow K) 5 := ⟨f33, fd33, ok_deedNow F33 T U19 U29, g33, F33.kp, b33⟩
  have U34 : Use l.prog w K mg base "followed" ["kinds", "company", "road"] (spFollowed K) 6 := ⟨f34, fd34, ok_followed F34 T U27 U28 U33, g34, F34.kp, b34⟩
  have U41 : Use l.prog w K mg base "led" ["kinds", "company", "road"] (spLedP K) 7 := ⟨f41, fd41, ok_ledP F41 T U22 U34, g41, F41.kp, b41⟩
  have KW1 : UseK l.prog w K mg base "led" ["kinds", "company", "road"] ["road", "company", "kinds"] gQ210 gQV210 (spLedP K) 7 := ⟨f41, fd41, ok_ledP F41 T U22 U34, g41, F41.kp, kw1⟩
  have U42 : Use l.prog w K mg base "is_road" ["kinds", "company", "value"] (spIsRoad K) 7 := ⟨f42, fd42, ok_isRoad F42 T U22 U34, g42, F42.kp, b42⟩
  have KW2 : UseK l.prog w K mg base "is_road" ["kinds", "company", "value"] ["value", "company", "kinds"] gQ210 gQV210 (spIsRoad K) 7 := ⟨f42, fd42, ok_isRoad F42 T U22 U34, g42, F42.kp, kw2⟩
  have U46 : Use l.prog w K mg base "_law_cell" ["_law_script", "_law_index"] (spCell K) 1 := ⟨f46, fd46, ok_cell F46 T, g46, F46.kp, b46⟩
  have U47 : Use l.prog w K mg base "_law_generator" ["_law_script", "_law_index"] (spGen K) 2 := ⟨f47, fd47, ok_gen F47 T U46, g47, F47.kp, b47⟩
  have U38 : Use l.prog w K mg base "is_deed" ["kinds", "company", "value"] (spIsDeed K) 6 := ⟨f38, fd38, ok_isDeed F38 T U22 U27 U33, g38, F38.kp, b38⟩
  have KW3 : UseK l.prog w K mg base "is_deed" ["kinds", "company", "value"] ["value", "company", "kinds"] gQ210 gQV210 (spIsDeed K) 6 := ⟨f38, fd38, ok_isDeed F38 T U22 U27 U33, g38, F38.kp, kw3⟩
  have U44 : Use l.prog w K mg base "_law_hash" ["_law_seed", "_law_index"] spHash 1 := ⟨f44, fd44, ok_hash F44 T, g44, F44.kp, b44⟩
  have U45 : Use l.prog w K mg base "_law_random" ["_law_generator_here", "_law_bound"] spRandom 2 := ⟨f45, fd45, ok_random F45 T U44, g45, F45.kp, b45⟩
  have U48 : Use l.prog w K mg base "_law_yes" ["_law_told", "_law_due"] spYes 1 := ⟨f48, fd48, ok_yes F48 T, g48, F48.kp, b48⟩
  have U50 : Use l.prog w K mg base "_law_tie" ["_law_company_here", "_law_one", "_law_other"] spTie 1 := ⟨f50, fd50, ok_tie F50 T, g50, F50.kp, b50⟩
  have U53 : Use l.prog w K mg base "_law_named" ["_law_company_here", "_law_order_here"] spNamed 2 := ⟨f53, fd53, ok_named F53 T U50, g53, F53.kp, b53⟩
  have U55 : Use l.prog w K mg base "_law_order" ["_law_generator_here", "_law_many"] spOrder 3 := ⟨f55, fd55, ok_order F55 T U45, g55, F55.kp, b55⟩
  have U56 : Use l.prog w K mg base "_law_company" ["_law_generator_here", "_law_kinds", "_law_many"] spCompany 4 := ⟨f56, fd56, ok_company F56 T U45 U50 U53 U55, g56, F56.kp, b56⟩
  have U51 : Use l.prog w K mg base "_law_alike" ["_law_company_here", "_law_one", "_law_other"] spAlike2 2 := ⟨f51, fd51, ok_alike2 F51 T U50, g51, F51.kp, b51⟩
  have U52 : Use l.prog w K mg base "_law_couples" ["_law_many"] spCouples 1 := ⟨f52, fd52, ok_couples F52 T, g52, F52.kp, b52⟩
  have U57 : Use l.prog w K mg base "_law_deeds" ["_law_kinds", "_law_company_here"] spDeedsM 3 := ⟨f57, fd57, ok_deedsM F57 T U50 U51 U52, g57, F57.kp, b57⟩
  have U49 : Use l.prog w K mg base "_law_is_whole" ["_law_value"] (spWhole K) 1 := ⟨f49, fd49, ok_wholeL F49 T, g49, F49.kp, b49⟩
  have U59 : Use l.prog w K mg base "_law_is_deed" ["_law_kinds", "_law_company_here", "_law_value"] (spIsDeedL K) 3 := ⟨f59, fd59, ok_isDeedL F59 T U49 U50 U51, g59, F59.kp, b59⟩
  have U60 : Use l.prog w K mg base "_law_bent" ["_law_generator_here", "_law_kinds", "_law_company_here", "_law_deed"] (spBentL K) 3 := ⟨f60, fd60, ok_bentL F60 T U45, g60, F60.kp, b60⟩
  have U24 : Use l.prog w K mg base "check_couple" ["company", "couple"] spCheckCp 4 := ⟨f24, fd24, ok_checkCp F24 T U18, g24, F24.kp, b24⟩
  have U35 : Use l.prog w K mg base "stand_alike" ["kinds", "company", "couple"] spStand 6 := ⟨f35, fd35, ok_stand F35 U22 U24 U27 U29, g35, F35.kp, b35⟩
  have U20 : Use l.prog w K mg base "is_lot" ["many", "value"] (spLot K) 3 := ⟨f20, fd20, ok_lot F20 T U14, g20, F20.kp, b20⟩
  have U25 : Use l.prog w K mg base "check_lot" ["company", "lot"] spCheckL 4 := ⟨f25, fd25, ok_checkL F25 T U20, g25, F25.kp, b25⟩
  have U31 : Use l.prog w K mg base "company_among" ["company", "lot"] spAmongC 1 := ⟨f31, fd31, ok_amongC F31 T, g31, F31.kp, b31⟩
  have U36 : Use l.prog w K mg base "among" ["kinds", "company", "lot"] spAmong 6 := ⟨f36, fd36, ok_among F36 U22 U25 U31, g36, F36.kp, b36⟩
  have U23 : Use l.prog w K mg base "check_companies" ["kinds", "one", "other"] spCheckCs 6 := ⟨f23, fd23, ok_checkCs F23 T U22 U17, g23, F23.kp, b23⟩
  have U32 : Use l.prog w K mg base "couples_unlike" ["one", "other"] spUnlikeC 1 := ⟨f32, fd32, ok_unlikeC F32 T IM, g32, F32.kp, b32⟩
  have U37 : Use l.prog w K mg base "differing" ["kinds", "one", "other"] spDiffer 7 := ⟨f37, fd37, ok_differ F37 U23 U32, g37, F37.kp, b37⟩
  have U40 : Use l.prog w K mg base "done" ["kinds", "company", "deed"] (spDone K) 7 := ⟨f40, fd40, ok_done F40 T U22 U34, g40, F40.kp, b40⟩
  have KW0 : UseK l.prog w K mg base "done" ["kinds", "company", "deed"] ["deed", "company", "kinds"] gQ210 gQV210 (spDone K) 7 := ⟨f40, fd40, ok_done F40 T U22 U34, g40, F40.kp, kw0⟩
  have U54 : Use l.prog w K mg base "_law_retied" ["_law_company_here", "_law_deed"] spRetied 1 := ⟨f54, fd54, ok_retied F54 T, g54, F54.kp, b54⟩
  have U61 : UseG l.prog w K mg base "_law_deed_right" ["_law_generator_here", "_law_kinds", "_law_company_here", "_law_deed"] spDeedRight 8 := ⟨f61, fd61, ok_deedRight F61 T U35 U36 U37 U38 KW0 U40 U45 U50 U54, g61, F61.kp, b61⟩
  have U58 : Use l.prog w K mg base "_law_road" ["_law_generator_here", "_law_kinds", "_law_company_here", "_law_most"] spRoadL 4 := ⟨f58, fd58, ok_roadL F58 T U45 U54 U57, g58, F58.kp, b58⟩
  have U62 : UseG l.prog w K mg base "_law_roads_right" ["_law_generator_here", "_law_kinds", "_law_company_here"] spRoadsRight 8 := ⟨f62, fd62, ok_roadsRight F62 T U41 KW1 KW2 U42 U45 U48 U50 U54 U58 U59, g62, F62.kp, b62⟩
  have U63 : UseG l.prog w K mg base "_law_right" ["_law_generator_here"] spRight3 9 := ⟨f63, fd63, ok_right3 F63 T U38 KW3 KW4 U39 U45 U48 U56 U57 U59 U60 U61 U62, g63, F63.kp, b63⟩
  exact ok_law (fun_mk (st := sLaw) ll cl kl) T U39 U41 U42 U47 U63
end K03
open PySem PySem.W PyProof.Rows
set_option maxRecDepth 100000 in
set_option maxHeartbeats 0 in
theorem PySem.Challenge.cw_twinties_k03_whole_deeds_and_roads_holds : PySem.Challenge.rw_twinties_k03_whole_deeds_and_roads.Holds := by
  w_on; o_law; k_head; (case hw => w_witness2)
  k_fill
  refine GL.walk_ofG (l := PySem.Challenge.rw_twinties_k03_whole_deeds_and_roads) (n := 63) (k := 10) (x := "_law_script") (sp := GL.spLaw) rfl (by decide) rfl ⟨rfl, by decide, by decide⟩ (fun w h Y => PySem.W.kIn_of Y) ?F (fun K H a ns hl _ hS => ⟨a, ns, rfl, hS, fun _ => rfl⟩)
  case F =>
    intro w mg fa h KX G hmg
    refine' K03.all_mk KX G hmg ?h13 ?h15 ?h21 ?h14 ?h16 ?h17 ?h22 ?h27 ?h29 ?h30 ?h39 ?h28 ?h18 ?h19 ?h33 ?h34 ?h41 ?h42 ?h46 ?h47 ?h38 ?h44 ?h45 ?h48 ?h50 ?h53 ?h55 ?h56 ?h51 ?h52 ?h57 ?h49 ?h59 ?h60 ?h24 ?h35 ?h20 ?h25 ?h31 ?h36 ?h23 ?h32 ?h37 ?h40 ?h54 ?h61 ?h58 ?h62 ?h63 ?h64 ?c0 ?c1 ?c2 ?z0 ?z1 ?z2 ?z3 ?z4 ?z5 ?z6 ?z7 ?z8 ?z9 ?z10 ?z11 ?z12 ?z13 ?z14 ?z15 ?z16 ?m0
    (case h13 => refine' K03.has_mk ?a ?l ?c ?k; (case a => k_is); (case l => k_is); (case c => k_is); (case k => k_is))
    (case h15 => refine' K03.has_mk ?a ?l ?c ?k; (case a => k_is); (case l => k_is); (case c => k_is); (case k => k_is))
    (case h21 => refine' K03.has_mk ?a ?l ?c ?k; (case a => k_is); (case l => k_is); (case c => k_is); (case k => k_is))
    (case h14 => refine' K03.has_mk ?a ?l ?c ?k; (case a => k_is); (case l => k_is); (case c => k_is); (case k => k_is))
    (case h16 => refine' K03.has_mk ?a ?l ?c ?k; (case a => k_is); (case l => k_is); (case c => k_is); (case k => k_is))
    (case h17 => refine' K03.has_mk ?a ?l ?c ?k; (case a => k_is); (case l => k_is); (case c => k_is); (case k => k_is))
    (case h22 => refine' K03.has_mk ?a ?l ?c ?k; (case a => k_is); (case l => k_is); (case c => k_is); (case k => k_is))
    (case h27 => refine' K03.has_mk ?a ?l ?c ?k; (case a => k_is); (case l => k_is); (case c => k_is); (case k => k_is))
    (case h29 => refine' K03.has_mk ?a ?l ?c ?k; (case a => k_is); (case l => k_is); (case c => k_is); (case k => k_is))
    (case h30 => refine' K03.has_mk ?a ?l ?c ?k; (case a => k_is); (case l => k_is); (case c => k_is); (case k => k_is))
    (case h39 => refine' K03.has_mk ?a ?l ?c ?k; (case a => k_is); (case l => k_is); (case c => k_is); (case k => k_is))
    (case h28 => refine' K03.has_mk ?a ?l ?c ?k; (case a => k_is); (case l => k_is); (case c => k_is); (case k => k_is))
    (case h18 => refine' K03.has_mk ?a ?l ?c ?k; (case a => k_is); (case l => k_is); (case c => k_is); (case k => k_is))
    (case h19 => refine' K03.has_mk ?a ?l ?c ?k; (case a => k_is); (case l => k_is); (case c => k_is); (case k => k_is))
    (case h33 => refine' K03.has_mk ?a ?l ?c ?k; (case a => k_is); (case l => k_is); (case c => k_is); (case k => k_is))
    (case h34 => refine' K03.has_mk ?a ?l ?c ?k; (case a => k_is); (case l => k_is); (case c => k_is); (case k => k_is))
    (case h41 => refine' K03.has_mk ?a ?l ?c ?k; (case a => k_is); (case l => k_is); (case c => k_is); (case k => k_is))
    (case h42 => refine' K03.has_mk ?a ?l ?c ?k; (case a => k_is); (case l => k_is); (case c => k_is); (case k => k_is))
    (case h46 => refine' K03.has_mk ?a ?l ?c ?k; (case a => k_is); (case l => k_is); (case c => k_is); (case k => k_is))
    (case h47 => refine' K03.has_mk ?a ?l ?c ?k; (case a => k_is); (case l => k_is); (case c => k_is); (case k => k_is))
    (case h38 => refine' K03.has_mk ?a ?l ?c ?k; (case a => k_is); (case l => k_is); (case c => k_is); (case k => k_is))
    (case h44 => refine' K03.has_mk ?a ?l ?c ?k; (case a => k_is); (case l => k_is); (case c => k_is); (case k => k_is))
    (case h45 => refine' K03.has_mk ?a ?l ?c ?k; (case a => k_is); (case l => k_is); (case c => k_is); (case k => k_is))
    (case h48 => refine' K03.has_mk ?a ?l ?c ?k; (case a => k_is); (case l => k_is); (case c => k_is); (case k => k_is))
    (case h50 => refine' K03.has_mk ?a ?l ?c ?k; (case a => k_is); (case l => k_is); (case c => k_is); (case k => k_is))
    (case h53 => refine' K03.has_mk ?a ?l ?c ?k; (case a => k_is); (case l => k_is); (case c => k_is); (case k => k_is))
    (case h55 => refine' K03.has_mk ?a ?l ?c ?k; (case a => k_is); (case l => k_is); (case c => k_is); (case k => k_is))
    (case h56 => refine' K03.has_mk ?a ?l ?c ?k; (case a => k_is); (case l => k_is); (case c => k_is); (case k => k_is))
    (case h51 => refine' K03.has_mk ?a ?l ?c ?k; (case a => k_is); (case l => k_is); (case c => k_is); (case k => k_is))
    (case h52 => refine' K03.has_mk ?a ?l ?c ?k; (case a => k_is); (case l => k_is); (case c => k_is); (case k => k_is))
    (case h57 => refine' K03.has_mk ?a ?l ?c ?k; (case a => k_is); (case l => k_is); (case c => k_is); (case k => k_is))
    (case h49 => refine' K03.has_mk ?a ?l ?c ?k; (case a => k_is); (case l => k_is); (case c => k_is); (case k => k_is))
    (case h59 => refine' K03.has_mk ?a ?l ?c ?k; (case a => k_is); (case l => k_is); (case c => k_is); (case k => k_is))
    (case h60 => refine' K03.has_mk ?a ?l ?c ?k; (case a => k_is); (case l => k_is); (case c => k_is); (case k => k_is))
    (case h24 => refine' K03.has_mk ?a ?l ?c ?k; (case a => k_is); (case l => k_is); (case c => k_is); (case k => k_is))
    (case h35 => refine' K03.has_mk ?a ?l ?c ?k; (case a => k_is); (case l => k_is); (case c => k_is); (case k => k_is))
    (case h20 => refine' K03.has_mk ?a ?l ?c ?k; (case a => k_is); (case l => k_is); (case c => k_is); (case k => k_is))
    (case h25 => refine' K03.has_mk ?a ?l ?c ?k; (case a => k_is); (case l => k_is); (case c => k_is); (case k => k_is))
    (case h31 => refine' K03.has_mk ?a ?l ?c ?k; (case a => k_is); (case l => k_is); (case c => k_is); (case k => k_is))
    (case h36 => refine' K03.has_mk ?a ?l ?c ?k; (case a => k_is); (case l => k_is); (case c => k_is); (case k => k_is))
    (case h23 => refine' K03.has_mk ?a ?l ?c ?k; (case a => k_is); (case l => k_is); (case c => k_is); (case k => k_is))
    (case h32 => refine' K03.has_mk ?a ?l ?c ?k; (case a => k_is); (case l => k_is); (case c => k_is); (case k => k_is))
    (case h37 => refine' K03.has_mk ?a ?l ?c ?k; (case a => k_is); (case l => k_is); (case c => k_is); (case k => k_is))
    (case h40 => refine' K03.has_mk ?a ?l ?c ?k; (case a => k_is); (case l => k_is); (case c => k_is); (case k => k_is))
    (case h54 => refine' K03.has_mk ?a ?l ?c ?k; (case a => k_is); (case l => k_is); (case c => k_is); (case k => k_is))
    (case h61 => refine' K03.has_mk ?a ?l ?c ?k; (case a => k_is); (case l => k_is); (case c => k_is); (case k => k_is))
    (case h58 => refine' K03.has_mk ?a ?l ?c ?k; (case a => k_is); (case l => k_is); (case c => k_is); (case k => k_is))
    (case h62 => refine' K03.has_mk ?a ?l ?c ?k; (case a => k_is); (case l => k_is); (case c => k_is); (case k => k_is))
    (case h63 => refine' K03.has_mk ?a ?l ?c ?k; (case a => k_is); (case l => k_is); (case c => k_is); (case k => k_is))
    (case h64 => refine' K03.has_mk ?a ?l ?c ?k; (case a => k_is); (case l => k_is); (case c => k_is); (case k => k_is))
    (case c0 => refine' K03.hasInt_mk ?a; (case a => k_is))
    (case c1 => refine' K03.hasInt_mk ?a; (case a => k_is))
    (case c2 => refine' K03.hasInt_mk ?a; (case a => k_is))
    (case z0 => (show PySem.W.nsIn _ mainGlobals _ = some none); k_is)
    (case z1 => (show PySem.W.nsIn _ mainGlobals _ = some none); k_is)
    (case z2 => (show PySem.W.nsIn _ mainGlobals _ = some none); k_is)
    (case z3 => (show PySem.W.nsIn _ mainGlobals _ = some none); k_is)
    (case z4 => (show PySem.W.nsIn _ mainGlobals _ = some none); k_is)
    (case z5 => (show PySem.W.nsIn _ mainGlobals _ = some none); k_is)
    (case z6 => (show PySem.W.nsIn _ mainGlobals _ = some none); k_is)
    (case z7 => (show PySem.W.nsIn _ mainGlobals _ = some none); k_is)
    (case z8 => (show PySem.W.nsIn _ mainGlobals _ = some none); k_is)
    (case z9 => (show PySem.W.nsIn _ mainGlobals _ = some none); k_is)
    (case z10 => (show PySem.W.nsIn _ mainGlobals _ = some none); k_is)
    (case z11 => (show PySem.W.nsIn _ mainGlobals _ = some none); k_is)
    (case z12 => (show PySem.W.nsIn _ mainGlobals _ = some none); k_is)
    (case z13 => (show PySem.W.nsIn _ mainGlobals _ = some none); k_is)
    (case z14 => (show PySem.W.nsIn _ mainGlobals _ = some none); k_is)
    (case z15 => (show PySem.W.nsIn _ mainGlobals _ = some none); k_is)
    (case z16 => (show PySem.W.nsIn _ mainGlobals _ = some none); k_is)
    (case m0 => (show PySem.W.nsIn _ mainGlobals _ = some (some (.type "itertools.combinations"))); k_is)

