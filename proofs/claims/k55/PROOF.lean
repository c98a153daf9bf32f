import PyProof.Rows.All
import Wide.All
import OpenK.AllK
import Wide.FinOn
import HandS.ForMost
import HandS.ForExc
import HandS.ExcInit
import HandS.Evl
import HandS.WideBits
import HandS.IsInst
import KE.KExcLine
import KE.KExcIs
import PyProof.ReprRoads
import PyProof.Rows.CountFlat
import HandS.Deep
import HandS.Star
import HandS.ClsMeth
import HandS.Property
import HandS.SlotsOwn
import HandS.FStr
import HandS.Text
import HandS.Strs
import HandS.TryElse
import HandS.Small
import KE.KFmtOwn
import PyProof.InstEq
import HandS.ExcValue
import HandS.HotCalls
import HandS.ExcCtx
import HandS.More
import HandS.Conv
import HandS.TupAny
import HandS.TupMul
import HandS.Style
import KE.KTupSum
import HandS.New
import OpenK.KMore
import HandS.Gcd
import HandS.Wide
import HandS.Walk
import HandS.Lambda
import KE.KTryMore
import KE.KIndexOf
import HandS.EndTab
import KE.KNestM
import HandS.Flow
import HandS.CallLocal
import HandS.WrittenGet
import PySem.Challenge.RW_pileworn_k55_whole_long_rests_judged
set_option Elab.async false
set_option linter.all false
set_option maxRecDepth 100000
set_option maxHeartbeats 4000000
/-! PW0: defs that are called where no repr is under way; repr of plain data -/
namespace PW
open PySem PySem.Spec PyProof.Rows L2

/-- no guarded built-in is under way -/
def Still (A : Around) : Prop := A.guards = some []

/-- a def's promise, kept where A is still -/
structure FnG (P : Program) (w : World) (K : PySem.W.Frag) (mg : Str → Option Value) (base : Heap)
    (CX : CXT) (k : Nat) (f : Addr) (fd : FuncData) (ps : List Str) (sp : Sp) : Prop where
  arity : ∀ vs H Q E, sp vs H Q E → vs.length = ps.length
  goes : ∀ (A : Around) (outer : List Env) (s : Shared) (H : Hp) (args : Args) (us : List Value)
    (vs : List V) (Q : VK) (E : XK), Still A → Room k A → Env0 P w K mg base A outer s H →
    BindsTo s fd args (ps.zip us) → Vals vs us → sp vs H Q E →
    codeAny (model P w) A (.call (.ref f) args) (CR CX outer P w H s Q E) s

theorem FnG.of {P : Program} {w : World} {K : PySem.W.Frag} {mg : Str → Option Value} {base : Heap}
    {CX : CXT} {k : Nat} {f : Addr} {fd : FuncData} {ps : List Str} {sp : Sp}
    (F : FnOk P w K mg base CX k f fd ps sp) : FnG P w K mg base CX k f fd ps sp :=
  ⟨F.len, fun A outer s H args us vs Q E _ => F.run A outer s H args us vs Q E⟩

section
variable {P : Program} {w : World} {K : PySem.W.Frag} {mg : Str → Option Value} {base : Heap}
/-- THE RULE for a def that wants stillness -/
theorem okG {x qual : Str} {st : Stmt} {f : Addr} {fd : FuncData} {N ps : List Str} {k : Nat} {sp : Sp}
    (F : Fun K x qual st f fd) (S : FnScope N ps (defScope st)) (len : ∀ vs H Q E, sp vs H Q E → vs.length = ps.length)
    (hbody : ∀ (cdv : Value) (A : Around) (outer : List Env) (s : Shared) (H : Hp) (vs : List V) (Q : VK) (E : XK),
      Still (A.deeper (envOfC qual (defScope st) s.heap.objs.size f cdv)) →
      Room k (A.deeper (envOfC qual (defScope st) s.heap.objs.size f cdv)) → sp vs H Q E →
      ∃ t, PSs (cxOf CX0 P w K mg base N qual (defScope st) f cdv A outer s H E).nox (defBody st) t ∧
        t { nx := fun _ H' => Q .non H', rt := Q } (start N vs) H) :
    FnG P w K mg base CX0 (k + 1) f fd ps sp := by
  obtain ⟨oc, od, kV, doc, pm, an, cdv, ct, osl, rfl, lk, hcd⟩ := F.ex
  refine ⟨len, ?_⟩
  intro A outer s H args us vs Q E still room env bnd rel hsp
  have hl := len _ _ _ _ hsp
  have kept : ∀ b o, base.get? b = some o → s.heap.get? b = some o := fun b o e => (env.bs b o e).1
  have KX : K.In s.heap := env.mod.kin.keeps kept
  have pars : ∀ y ∈ ps.zip us, (defScope st).names.lookup y.1 = some .local ∨
      ((defScope st).names.lookup y.1 = some .cell ∧
        ((cellsFrom (s.heap.objs.size + 1) (defScope st).names []).lookup y.1).isSome = true) := by
    intro y hy
    obtain ⟨n, v⟩ := y
    exact (S.par n (List.of_mem_zip hy).1).imp id fun q => ⟨q, PySem.W.cellsFrom_some _ _ _ (.inl q)⟩
  refine codeAny_call_function room.depth (KX _ _ lk) rfl S.co S.gen rfl
    (PySem.W.codeRec_of KX hcd) (bnd _ _ _ _ ?_)
  refine wpAny_newFunctionEnv_cells S.kind pars ?_
  intro env' he s1 x
  subst he
  refine ⟨(env.mod.nolimit.keeps kept).keeps x.toInCall.keep, codeAny_func ?_⟩
  obtain ⟨t, ht, hq⟩ := hbody cdv A outer s H vs Q E still (room.deeper _) hsp
  refine wpAny_mono (ht.nox.run [] s1 (start N vs) H _
    (inv_start S room.hd env hl rel x) hq) ?_ (fun _ _ z => z)
  intro fl s' hs
  cases fl with
  | ret u =>
    obtain ⟨v, σ', H', J, rv, q⟩ := hs
    exact ⟨v, H', J.os, J.bare, J.base, J.hok, rv, q⟩
  | next =>
    obtain ⟨σ', H', J, q⟩ := hs
    exact ⟨V.non, H', J.os, J.bare, J.base, J.hok, rfl, q⟩
  | brk => exact hs.elim fun _ z => z.elim fun _ z => z.2.elim
  | cont => exact hs.elim fun _ z => z.elim fun _ z => z.2.elim
end

section
variable {X : Cx} {CX : CXT} {k : Nat} {f C : Addr} {fd : FuncData} {ps : List Str} {sp : Sp} {dvs : List V}
  {ds : List Value} {E : XK} {x m : Str} {p pos apos : Pos} {e o : Expr} {es : List Expr} {ta : TE} {t : TA}
/-- f(e, ..) of such a def -/
theorem pe_callG (F : FnG X.prog X.w X.K X.mg X.base CX k f fd ps sp) (st : Still X.A) (hr : Room k X.A)
    (hg : Gl X x) (hm : X.mg x = some (.ref f)) (hk : PySem.W.keepIn X.K (.ref f) = true)
    (hb : Binds X.K fd ps ds) (hd : Vals dvs ds) (hx : Passes CX X E) (ha : PA X (e :: es) t)
    (hdb : (x == ("__debug__" : Str)) = false := by decide)
    (he : starEach (e :: es) X.env = (false, eval e X.env) :: starEach es X.env := by rfl)
    (hpl : (backTo pos (starEach es X.env)).any (·.1) = false := by rfl) :
    PE X (.Call (.Name x p) (e :: es) [] pos) (tCall sp dvs E t) := by
  constructor
  intro pins s σ H Q I h
  refine wpAny_Call_Name_kw (ld_glob I hg hm ?_ hdb)
  refine PySem.W.callWith_K (h₀ := X.base) I.ok.mod.kin hk (thn (ha.run pos pins s σ H _ I h) ?_) he hpl
  rintro us s1 ⟨vs, H1, I1, r, q⟩
  refine ⟨I1.kIn, ?_⟩
  have rr := r.append hd
  have hl : (us ++ ds).length = ps.length := rr.length.symm.trans (F.arity _ _ _ _ q)
  refine wpAny_call (codeAny_mono (F.goes X.A X.stack s1 H1 ⟨us, []⟩ (us ++ ds) (vs ++ dvs) Q E st hr
    I1.env0 (hb s1 us I1.kIn hl) rr q) ?_)
  intro r s' hq
  match r, hq with
  | .error er, hq => exact hx pins σ H1 s1 er s' I1 hq
  | .ok (.ret u), hq => exact I1.after hq
  | .ok .next, hq => exact False.elim hq
  | .ok .brk, hq => exact False.elim hq
  | .ok .cont, hq => exact False.elim hq
end

/-! ### a law's end, where its def wants stillness -/
theorem still_caller : Still callerA := rfl
section
variable {P : Program} {w : World} {K : PySem.W.Frag} {mg mb : Str → Option Value} {k : Nat} {fa a : Addr}
  {fd : FuncData} {x : Str} {sp : Sp} {s1 : Shared} {vs : List Value} {ns : List Int}
/-- the call over one abstract heap, in which at most the script is tracked -/
theorem law_core (KX : K.In s1.heap) (hns : s1.heap.Ns mainGlobals mg) (hb : s1.heap.Ns builtinsNs mb)
    (hbb : ∀ x : Str, x ≠ "__name__" → mb x = bootBuiltins x) (hlim : s1.heap.NoLimit) (hg : s1.gens = #[])
    {mm : Str → Option Value} (hsys : s1.heap.Ns sysModules mm)
    (hr : Room k callerA)
    (F : ∀ base : Heap, K.In base → base.Ns mainGlobals mg → (base.get? sysModules).isSome = true → FnG P w K mg base CX0 k fa fd [x] sp)
    (hbind : ∀ (s : Shared) (u : Value), BindsTo s fd ⟨[u], []⟩ [(x, u)])
    (H : Hp) (only : Only H) (hok : HOk P w H s1.heap)
    (nodict : ∀ b o es ep, s1.heap.get? b = some o → o.data = .dict es ep → H b = none)
    (noK : ∀ b o, K.lookup b = some o → H b = none)
    (hsp : sp [.ref a] H (fun v _ => v = .bl true) fun _ _ _ => False) :
    codeAny (model P w) callerA (.call (.ref fa) ⟨[.ref a], []⟩)
      (fun r s' => r = .ok (.ret (.bool true)) ∧ OldK s1.heap s'.heap ∧ s'.os = s1.os ∧ AllBare s'.gens) s1 := by
  have nsK : ∀ {b : Addr} {m : Str → Option Value}, s1.heap.Ns b m → (hidT s1.heap H).Ns b m := by
    rintro b m ⟨o, es, ep, e, d, r⟩
    exact ⟨o, es, ep, hidT_get e (nodict b o es ep e d), d, r⟩
  have kin : K.In (hidT s1.heap H) := fun b o e => hidT_get (KX b o e) (noK b o e)
  have mo : Mod K mg (hidT s1.heap H) :=
    ⟨kin, nsK hns, ⟨mb, nsK hb, hbb⟩, hlim.elim fun mc q => ⟨mc, nsK q.1, q.2⟩⟩
  have en : Env0 P w K mg (hidT s1.heap H) callerA [] s1 H :=
    { frames := rfl, mod := mo, bs := fun b o e => of_hidT e, bsz := Nat.le_of_eq (hidT_size _ _),
      funs := trivial, frf := fun b z => absurd (show b ∈ ([] : List Addr) from z) (by simp), hok := hok,
      bare := .of_eq hg }
  have sys : ((hidT s1.heap H).get? sysModules).isSome = true := by
    obtain ⟨o, _, _, e, _⟩ := nsK hsys
    rw [e]
    rfl
  refine codeAny_mono ((F _ kin (nsK hns) sys).goes callerA [] s1 H ⟨[.ref a], []⟩ [.ref a] [.ref a] _ _
    still_caller hr en (hbind s1 (.ref a)) (.cons rfl .nil) hsp) ?_
  intro r s' h
  match r, h with
  | .error e, h => exact False.elim h
  | .ok .next, h => exact False.elim h
  | .ok .brk, h => exact False.elim h
  | .ok .cont, h => exact False.elim h
  | .ok (.ret u), h =>
    obtain ⟨v, H', os, bare, un, hok', r', rfl⟩ := h
    obtain rfl : u = Value.bool true := r'
    refine ⟨rfl, OldK.of_keep ?_, os, bare⟩
    intro b o e
    rcases only b with z | ⟨ob, xs, z⟩
    · exact un.keep b o e z (fun q => absurd (show b ∈ ([] : List Addr) from q) (by simp)) (by simp)
    · have old := (hok b _ z).1
      have new := (hok' b _ (un.frzs b ob _ z)).1
      exact new.trans (old.symm.trans e)
/-- .. the script tracked, or one of the module's own objects -/
theorem law_callG (KX : K.In s1.heap) (hns : s1.heap.Ns mainGlobals mg) (hb : s1.heap.Ns builtinsNs mb)
    (hbb : ∀ x : Str, x ≠ "__name__" → mb x = bootBuiltins x) (hlim : s1.heap.NoLimit) (hg : s1.gens = #[])
    {mm : Str → Option Value} (hsys : s1.heap.Ns sysModules mm)
    (ha : s1.heap.get? a = some { cls := .type "list", data := .seq vs.toArray }) (hi : IntsAre vs ns)
    (hl : ns.length ≤ sizeLine) (hr : Room k callerA)
    (F : ∀ base : Heap, K.In base → base.Ns mainGlobals mg → (base.get? sysModules).isSome = true → FnG P w K mg base CX0 k fa fd [x] sp)
    (hbind : ∀ (s : Shared) (u : Value), BindsTo s fd ⟨[u], []⟩ [(x, u)])
    (hsp : ∀ H : Hp, Only H → SqL K H a (ns.map V.int) → sp [.ref a] H (fun v _ => v = .bl true) fun _ _ _ => False) :
    codeAny (model P w) callerA (.call (.ref fa) ⟨[.ref a], []⟩)
      (fun r s' => r = .ok (.ret (.bool true)) ∧ OldK s1.heap s'.heap ∧ s'.os = s1.os ∧ AllBare s'.gens) s1 := by
  have rv := vals_ints hi
  have lenV := hi.length
  cases hk : K.lookup a with
  | some o =>
    obtain rfl := Option.some.inj (ha.symm.trans (KX a o hk))
    refine law_core KX hns hb hbb hlim hg hsys hr F hbind (fun _ => none) (fun _ => .inl rfl) (fun b u z => nomatch z)
      (fun _ _ _ _ _ _ => rfl) (fun _ _ _ => rfl) (hsp _ (fun _ => .inl rfl) (.inr ⟨_, vs.toArray, _, hk, rfl, rfl, rfl, ?_, ?_⟩))
    · rw [List.size_toArray, lenV]
      exact hl
    · simpa using rv
  | none =>
    let ob : Obj := { cls := .type "list", data := .seq vs.toArray }
    let H : Hp := fun b => if b = a then some (.frz ob (.lst (ns.map V.int))) else none
    have at_a : H a = some (.frz ob (.lst (ns.map V.int))) := if_pos rfl
    have off : ∀ {b}, b ≠ a → H b = none := fun h => if_neg h
    have only : Only H := fun b => by
      by_cases q : b = a
      · exact .inr ⟨ob, _, q ▸ at_a⟩
      · exact .inl (off q)
    refine law_core KX hns hb hbb hlim hg hsys hr F hbind H only (fun b u z => ?_) (fun b o es ep e d => ?_)
      (fun b o e => off fun q => ?_) (hsp H only (.inl (.inr ⟨ob, at_a⟩)))
    · by_cases q : b = a
      · subst q
        obtain rfl := Option.some.inj (at_a.symm.trans z)
        exact ⟨ha, by rw [List.length_map]; exact hl, vs, _, rv, ha⟩
      · exact nomatch (off q).symm.trans z
    · refine off fun q => ?_
      subst q
      obtain rfl := Option.some.inj (ha.symm.trans e)
      cases d
    · rw [q, hk] at e
      cases e
end
/-- what is left of a row behind its head, from such a promise of its def -/
theorem walkG {l : PySem.W.OpenLaw} {n k : Nat} {q : Program} {loose : List Str} {XP : (Str → Option Value) → Heap → Prop}
    {YP : World → Heap → Prop} {d : DefRec} {K : Params → PySem.W.Frag} {sp : PySem.W.Frag → Sp} {x : Str}
    (hn : l.most = some n) (hn2 : n ≤ sizeLine) (hdf : d.params.defaults = []) (hq : importsNone q = true) (hr : Room k callerA)
    (hY : ∀ (w : World) (h : Heap), YP w h → (K w.params).In h)
    (F : ∀ (w : World) (mg : Str → Option Value) (fa : Addr) (h : Heap), (K w.params).In h → h.Ns mainGlobals mg →
      mg d.name = some (.ref fa) → ∃ fd : FuncData, (∀ (s : Shared) (u : Value), BindsTo s fd ⟨[u], []⟩ [(x, u)]) ∧
        ∀ base : Heap, (K w.params).In base → base.Ns mainGlobals mg → (base.get? sysModules).isSome = true →
          FnG l.prog w (K w.params) mg base CX0 k fa fd [x] (sp (K w.params)))
    (hsp : ∀ (K : PySem.W.Frag) (H : Hp) (a : Addr) (ns : List Int), ns.length ≤ n → Only H →
      SqL K H a (ns.map V.int) → sp K [.ref a] H (fun v _ => v = .bl true) fun _ _ _ => False) :
    PySem.W.WalkO q loose XP YP l.row.toRowW d [] (fun f vs => PySem.call f vs) := by
  refine Att.attach_call hn hdf ?_
  intro w s0 s1 mg mb fa o pm cd doc a vs ns G Y ho hd hcd hmg hobj hints hlen hg
  have KX := hY w _ Y
  obtain ⟨fd, hb, hF⟩ := F w mg fa _ KX G.T.g hmg
  obtain ⟨mm, hsys, _⟩ := (G.T.seer hq).mods
  exact law_callG KX G.T.g G.T.b G.T.builtins G.T.nolimit hg hsys hobj hints (Nat.le_trans hlen hn2) hr hF hb
    fun H hO hS => hsp (K w.params) H a ns hlen hO hS

/-! ### repr of plain data -/
def keyD : Key → PyData
  | .inl i => .int i
  | .inr x => .str x
mutual
/-- a value and what it shows: plain data over the abstract heap -/
inductive Dat (H : Hp) : V → PyData → Prop where
  | non : Dat H .non .none
  | bl (b : Bool) : Dat H (.bl b) (.bool b)
  | int (i : Int) : Dat H (.int i) (.int i)
  | str (x : Str) : Dat H (.str x) (.str x)
  | lst {a : Addr} {xs : List V} {ds : List PyData} (h : Rd H a (.lst xs)) (r : Dats H xs ds) : Dat H (.ref a) (.list ds)
  | tup {a : Addr} {xs : List V} {ds : List PyData} (h : Rd H a (.tup xs)) (r : Dats H xs ds) : Dat H (.ref a) (.tuple ds)
  | dic {a : Addr} {kvs : List (Key × V)} {ds : List PyData} (h : Rd H a (.dK kvs)) (r : Dats H (kvs.map (·.2)) ds) :
      Dat H (.ref a) (.dict ((kvs.map fun kv => keyD kv.1).zip ds))
inductive Dats (H : Hp) : List V → List PyData → Prop where
  | nil : Dats H [] []
  | cons {x : V} {d : PyData} {xs : List V} {ds : List PyData} (h : Dat H x d) (r : Dats H xs ds) : Dats H (x :: xs) (d :: ds)
end
theorem rd_some {H : Hp} {a : Addr} {u : HO} (h : Rd H a u) : H a ≠ none := by
  rcases h with h | ⟨o, h⟩ <;> rw [h] <;> simp
theorem Dats.len {H : Hp} : ∀ {xs : List V} {ds : List PyData}, Dats H xs ds → xs.length = ds.length
  | _, _, .nil => rfl
  | _, _, .cons _ r => congrArg (· + 1) r.len

section
variable {P : Program} {w : World} {H : Hp} {h : Heap}
theorem reads_keys : ∀ {ks : List Key} {us : List Value}, Paired (fun k u => keyIs k u = true) ks us → ReadsAll h us (ks.map keyD) []
  | _, _, .nil => .nil
  | _, _, .cons q r => by
    have t := reads_keys r
    rcases keyIs_shape q with ⟨i, t', rfl, rfl⟩ | ⟨x, t', rfl, rfl⟩
    · exact .cons (bs := []) (.int i t') t
    · exact .cons (bs := []) (.str x t') t
theorem pairs_parts {P : Program} {w : World} : ∀ {es : List DictEntry} {vs : List (Key × Value)} {kvs : List (Key × V)},
    Pairs (mixKind P w) es vs → KV kvs vs →
    Paired (fun k u => keyIs k u = true) (kvs.map (·.1)) (es.map (·.key)) ∧ Vals (kvs.map (·.2)) (es.map (·.val))
  | _, _, _, .nil, r => by
    cases r
    exact ⟨.nil, .nil⟩
  | _, _, _, .cons a b c, r => by
    cases r with
    | cons q t =>
      obtain ⟨i1, i2⟩ := pairs_parts c t
      rename_i e0 kv0 _ _ k0 _
      have a1 : keyIs k0.1 e0.key = true := by rw [q.1]; exact a
      have b1 : RelV k0.2 e0.val := by rw [b]; exact q.2
      exact ⟨.cons a1 i1, .cons b1 i2⟩
theorem zip_fst {α β : Type} : ∀ {l : List α} {m : List β}, l.length = m.length → (l.zip m).map (·.1) = l
  | [], [], _ => rfl
  | _ :: _, _ :: _, e => by simp [zip_fst (Nat.succ.inj e)]
theorem zip_snd {α β : Type} : ∀ {l : List α} {m : List β}, l.length = m.length → (l.zip m).map (·.2) = m
  | [], [], _ => rfl
  | _ :: _, _ :: _, e => by simp [zip_snd (Nat.succ.inj e)]
mutual
theorem Dat.reads (ok : HOk P w H h) : ∀ {v : V} {d : PyData} {u : Value}, Dat H v d → RelV v u → ∃ as, Reads h u d as ∧ ∀ b ∈ as, H b ≠ none
  | _, _, _, .non, r => ⟨[], by cases r; exact .none, by simp⟩
  | _, _, _, .bl b, r => ⟨[], by cases r; exact .bool b, by simp⟩
  | _, _, _, .int i, r => by
    obtain ⟨t, rfl⟩ := r
    exact ⟨[], .int i t, by simp⟩
  | _, _, _, .str x, r => by
    obtain ⟨t, rfl⟩ := r
    exact ⟨[], .str x t, by simp⟩
  | _, _, _, .lst (a := a) hr q, r => by
    cases r
    obtain ⟨_, its, n, rel, e⟩ := hr.ok ok
    obtain ⟨as, ra, ha⟩ := Dats.reads ok q rel
    refine ⟨a :: as, .list e rfl rfl ra, fun b hb => ?_⟩
    rcases List.mem_cons.mp hb with rfl | hb
    · exact rd_some hr
    · exact ha b hb
  | _, _, _, .tup (a := a) hr q, r => by
    cases r
    obtain ⟨_, its, rel, o, e, c, n, dd⟩ := hr.ok ok
    obtain ⟨as, ra, ha⟩ := Dats.reads ok q rel
    exact ⟨as, .tuple e c dd ra, ha⟩
  | _, _, _, .dic (a := a) (kvs := kvs) (ds := ds) hr q, r => by
    cases r
    obtain ⟨_, _, vs, kv, o, es, ep, e, ex, dd, ko, ps, nd⟩ := hr.ok ok
    obtain ⟨pk, pv'⟩ := pairs_parts ps kv
    obtain ⟨as, ra, ha⟩ := Dats.reads ok q pv'
    have len : (kvs.map fun kv => keyD kv.1).length = ds.length := by
      rw [List.length_map, ← q.len, List.length_map]
    refine ⟨a :: [] ++ as, .dict e ex.1 dd ?_ ?_, fun b hb => ?_⟩
    · have t := reads_keys (h := h) pk
      rw [zip_fst len]
      rw [List.map_map] at t
      exact t
    · rw [zip_snd len]
      exact ra
    · rcases List.mem_cons.mp hb with rfl | hb
      · exact rd_some hr
      · exact ha b hb
theorem Dats.reads (ok : HOk P w H h) : ∀ {xs : List V} {ds : List PyData} {us : List Value}, Dats H xs ds → Vals xs us → ∃ as, ReadsAll h us ds as ∧ ∀ b ∈ as, H b ≠ none
  | _, _, _, .nil, r => by
    cases r
    exact ⟨[], .nil, by simp⟩
  | _, _, _, .cons q t, r => by
    cases r with
    | cons r1 r2 =>
      obtain ⟨as, ra, ha⟩ := Dat.reads ok q r1
      obtain ⟨bs, rb, hb⟩ := Dats.reads ok t r2
      exact ⟨as ++ bs, .cons ra rb, fun b m => (List.mem_append.mp m).elim (ha b) (hb b)⟩
end
end

def rRepr (_ : PySem.W.Frag) : List V → Hp → VK → Prop := fun xs H Q => ∃ (v : V) (d : PyData), xs = [v] ∧ Dat H v d ∧ d.showable = true ∧
  d.shown.length ≤ sizeLine ∧ d.depth ≤ 40 ∧ Q (.str d.shown) H
/-- repr(v), v plain data -/
theorem call_reprD {X : Cx} (st : Still X.A) (hu : X.A.units + 64 < cLine) (hs' : (X.base.get? sysModules).isSome = true) : CallR X (.builtin "repr") (rRepr X.K) := by
  rintro pins s σ H xs us Q I r ⟨v, d, rfl, q, sh, sz, dp, k⟩
  have hs : d.hasDict = true → H sysModules = none := fun _ => by
    obtain ⟨o, ho⟩ := Option.isSome_iff_exists.mp hs'
    exact (I.bs _ _ ho).2
  cases r with
  | cons r1 rn =>
    cases rn
    have fin : ∀ (h' : Heap) (u : Tok) (tk : Nat), (∀ b o, s.heap.get? b = some o → h'.get? b = some o) →
        EP X pins σ Q (.str d.shown u) { s with heap := h', toks := tk } := fun h' u tk kp =>
      ⟨.str d.shown, H, I.kept kp, ⟨u, rfl⟩, k⟩
    obtain ⟨as, rd, ha⟩ := q.reads I.hok r1
    have big : ∀ {a : Addr} {e : PyData}, (e.depth ≤ 40) → X.A.units + (e.depth + 1) < cLine := fun h => by omega
    cases rd with
    | none => exact P.repr_of_none (fin s.heap _ _ fun _ _ e => e)
    | bool b => exact P.repr_of_bool (fin s.heap _ _ fun _ _ e => e)
    | int i t =>
      refine P.repr_of_int (by simpa [PyData.showable] using sh) (fin s.heap _ _ fun _ _ e => e)
    | str x t =>
      refine P.repr_of_str (fin s.heap _ _ fun _ _ e => e) (by simpa [PyData.shown] using sz)
    | list h1 h2 h3 h4 =>
      exact repr_of_reads' (.list h1 h2 h3 h4) sh (fun z m => ha _ m (hs z)) st (by omega) (fun _ _ e => e)
        (fun h' u tk kp => fin h' u tk kp) sz
    | tuple h1 h2 h3 h4 =>
      exact repr_of_reads' (.tuple h1 h2 h3 h4) sh (fun z m => ha _ m (hs z)) st (by omega) (fun _ _ e => e)
        (fun h' u tk kp => fin h' u tk kp) sz
    | dict h1 h2 h3 h4 h5 =>
      exact repr_of_reads' (.dict h1 h2 h3 h4 h5) sh (fun z m => ha _ m (hs z)) st (by omega) (fun _ _ e => e)
        (fun h' u tk kp => fin h' u tk kp) sz
end PW
/-! PW1: exceptions of the program as values: made by position and by name, their attributes, isinstance -/
namespace PW
open PySem PySem.Spec PyProof.Rows L2

/-- what the written part says of an exception class of the program at C -/
structure XC (K : PySem.W.Frag) (C : Addr) : Prop where
  base : ∃ (B newId initId : String) (bmB : List Value), ExcBaseFacts B newId initId bmB ∧
    PySem.StoreFacts B bmB "object.__setattr__" "object" ∧ PySem.W.excInitIn K C bmB newId = true ∧ PySem.W.excOver K C bmB = true
  sa : PySem.W.findIn K (.ref C) "__setattr__" = some (some (.builtin "object.__setattr__"))
  ga : PySem.W.findIn K (.ref C) "__getattribute__" = some (some (.builtin "BaseException.__getattribute__"))
  gg : PySem.W.findIn K (.ref C) "__getattr__" = some none
  ex : PySem.W.subIn K (.ref C) (.type "BaseException") = some true
  kp : PySem.W.keepIn K (.ref C) = true
  hd : PySem.W.hasDictIn K C = true
  cl : (PySem.W.clsIn K C).isSome = true
  ca : PySem.W.findIn K (.ref C) "__class__" = some (some (.builtin "object.__class__"))
  mo : PySem.W.mroIn K C (.type "object") = some true
/-- of every such class alike -/
structure XAll (K : PySem.W.Frag) : Prop where
  gs : PySem.W.specialIn K (.builtin "object.__class__") "__get__" = some (some (.builtin "getset_descriptor.__get__"))
  tk : PySem.W.takesIn K (.builtin "object.__class__") = some true

section
variable {prog : Program} {w : World} {A : Around} {E : Value → Shared → Prop} {K : PySem.W.Frag} {C x : Addr} {f : Str}
  {v : Value} {Q : Unit → Shared → Prop} {hp : Heap} {g : Array GenState} {d : Drawn} {t : Nat} {os : OsState} {fv : Array Value}
theorem set_more (T : XC K C) {dx : Addr} {m0 : Str → Option Value} {nl : List Str} (X : K.In hp)
    (hx : hp.get? x = some { cls := .ref C, dict := some dx, data := .fields fv }) (hn : hp.Ns1 dx m0) (hw : Within m0 nl)
    (hz : nl.length ≤ 1000) (tk : PySem.W.takerIn K C f = some none)
    (hq : ∀ h' tk', (∀ b o, b ≠ dx → hp.get? b = some o → h'.get? b = some o) →
      h'.Ns1 dx (fun y => if y = f then some v else m0 y) → Q () ⟨h', g, d, tk', os⟩) :
    wpAny (model prog w) A (setAttr (.ref x) f v) Q E ⟨hp, g, d, t, os⟩ := by
  obtain ⟨B, newId, initId, bmB, bf, sf, mk, ov⟩ := T.base
  obtain ⟨oD, esD, epD, hoD, hdD, _⟩ := hn.count hw
  obtain ⟨cd, hc, hd'⟩ := PySem.W.any_some T.hd
  have I : PySem.W.InstAt hp x { cls := .ref C, dict := some dx, data := .fields fv } C (some oD) := ⟨hx, rfl, rfl, hoD⟩
  refine PySem.W.set_plain X I T.sa (PySem.W.osa_openX (s := ⟨hp, g, d, t + 1, os⟩) sf X I ov tk fun b => ?_)
  refine wpAny_bind (wpAny_pure (wpAny_bind (wpAny_bind (wpAny_loadPart hx (wpAny_bind ((PySem.W.looks_clsIn X hc).here ?_))))))
  rw [hd']
  refine wpAny_pure (a := some dx) ?_
  exact PySem.OEX.store_in_old hn hw hz fun h' tk' n' same =>
    hq h' tk' (fun b o hb e => (same.2 b hb).trans e) n'
theorem set_first (T : XC K C) {t0 : Addr} (X : K.In hp) (hx : hp.get? x = some (PySem.HandSPX.excO C t0))
    (tk : PySem.W.takerIn K C f = some none)
    (hq : ∀ h' tk' dx, (∀ b o, b ≠ x → hp.get? b = some o → h'.get? b = some o) → hp.objs.size ≤ dx → dx ≠ x →
      h'.get? x = some { cls := .ref C, dict := some dx, data := .fields #[.ref t0, .none, .none, .none, .bool false, .none] } →
      h'.Ns1 dx (fun y => if y = f then some v else none) → Q () ⟨h', g, d, tk', os⟩) :
    wpAny (model prog w) A (setAttr (.ref x) f v) Q E ⟨hp, g, d, t, os⟩ := by
  obtain ⟨B, newId, initId, bmB, bf, sf, mk, ov⟩ := T.base
  obtain ⟨cd, hc, hd'⟩ := PySem.W.any_some T.hd
  have I : PySem.W.InstAt hp x (PySem.HandSPX.excO C t0) C none := ⟨hx, rfl, rfl, trivial⟩
  have far : hp.objs.size ≠ x := Nat.ne_of_gt (Heap.lt_size hx)
  refine PySem.W.set_plain X I T.sa (PySem.W.osa_openX (s := ⟨hp, g, d, t + 1, os⟩) sf X I ov tk fun b => ?_)
  refine wpAny_bind (wpAny_pure (wpAny_bind (PySem.W.instanceDict_exc (s := ⟨hp, g, d, t + 1, os⟩) (c2 := .none) hx
    (PySem.W.looks_clsIn X hc) hd' ?_)))
  refine PySem.HandSPX.store_in_new ?_ ?_
  · exact ⟨_, #[], _, (Heap.get?_update_ne _ _ _ _ far).trans (Heap.get?_push_at rfl rfl), rfl,
      fun e he => absurd he (by simp), fun _ => rfl⟩
  · intro h' tk' n' same
    have hx1 : (hp.push (PySem.W.dictOf [] 0)).get? x = some (PySem.HandSPX.excO C t0) := Heap.get?_push_of_some _ hx
    refine hq h' tk' hp.objs.size (fun b o hb e => ?_) (Nat.le_refl _) far ?_ n'
    · have q : b ≠ hp.objs.size := Nat.ne_of_lt (Heap.lt_size e)
      exact (same.2 b q).trans ((Heap.get?_update_ne _ _ _ _ hb).trans (Heap.get?_push_of_some _ e))
    · exact (same.2 x far.symm).trans (Heap.get?_update_self _ hx1 rfl)
end

/-! ### self.f = e within __init__ -/
section
variable {X : Cx} {pins : List (Addr × Obj)} {σ : L2.St} {H : Hp} {s : Shared} {a C dx : Addr} {f : Str} {y : V} {u : Value}
  {fs : List (Str × V)} {Q : Unit → Shared → Prop} {E : Value → Shared → Prop} {A : Around}
theorem put_first (T : XC X.K C) (I : Inv X pins σ H s) (e : H a = some (exo a C none))
    (tk : PySem.W.takerIn X.K C f = some none) (ry : RelV y u)
    (h : ∀ dx s', H dx = none → dx ≠ a →
      Inv X pins σ (upd (upd H dx (exd dx [(f, y)])) a (exo a C (some dx))) s' → Q () s') :
    wpAny (model X.prog X.w) A (setAttr (.ref a) f u) Q E s := by
  obtain ⟨t1, ho⟩ := exo_at I.hok e
  obtain ⟨hp, g, d, t, os⟩ := s
  refine set_first T I.kIn ho tk fun h' tk' dx k dn dne hx hn => ?_
  have new : H dx = none := I.hok.fresh dn
  have old : ∀ {b : Addr} {o : Obj}, hp.get? b = some o → b ≠ dx := fun q => Nat.ne_of_lt (Nat.lt_of_lt_of_le (Heap.lt_size q) dn)
  have off : ∀ {b : Addr}, H b = none → b ≠ a := fun n z => by rw [z, e] at n; cases n
  have un : Un X.fs [] H (upd (upd H dx (exd dx [(f, y)])) a (exo a C (some dx))) hp h' :=
    { keep := fun b o q n _ _ => k b o (off n) q
      slot := fun b o q n _ _ => ⟨o.slots, k b o (off n) q⟩
      free := fun b o q n _ => (upd_ne (off n)).trans ((upd_ne (old q)).trans n)
      there := fun b o q _ => by
        by_cases z : b = a
        · exact ⟨_, z ▸ hx⟩
        · exact ⟨o, k b o z q⟩
      tups := fun b xs q => (upd_ne (at_ne e q exo_tup)).trans ((upd_ne (ne_of_none q new)).trans q)
      frzs := fun b o v q => (upd_ne (at_ne e q exo_frz)).trans ((upd_ne (ne_of_none q new)).trans q)
      tbls := fun b ps q => ⟨#[], ((upd_ne (at_ne e q exo_tbl)).trans ((upd_ne (ne_of_none q new)).trans q)).trans (by simp)⟩ }
  refine h dx _ new dne (I.un (t' := tk') un fun b o q => ?_)
  by_cases z : b = a
  · subst z
    obtain rfl := Option.some.inj (upd_same.symm.trans q)
    exact exo_ok hx
  · have q1 := (upd_ne z).symm.trans q
    by_cases zd : b = dx
    · subst zd
      obtain rfl := Option.some.inj (upd_same.symm.trans q1)
      exact exd_ok hn (relO_put (fs := []) ry fun _ => trivial)
    · have q2 := (upd_ne zd).symm.trans q1
      refine (I.hok b o q2).stay (fun c v hc w' => k c v ?_ w') (fun c hc => ?_) fun c xs hc => ?_
      · rcases hc with rfl | hc
        · exact z
        · exact at_ne e hc exo_own
      · exact (upd_ne (at_ne e hc exo_own)).trans ((upd_ne (ne_of_none hc new)).trans hc)
      · exact (upd_ne (at_ne e hc exo_tup)).trans ((upd_ne (ne_of_none hc new)).trans hc)
theorem put_more (T : XC X.K C) (I : Inv X pins σ H s) (e : H a = some (exo a C (some dx))) (ed : H dx = some (exd dx fs))
    (hl : fs.length ≤ 900) (tk : PySem.W.takerIn X.K C f = some none) (ry : RelV y u)
    (h : ∀ s', Inv X pins σ (upd H dx (exd dx ((f, y) :: fs))) s' → Q () s') :
    wpAny (model X.prog X.w) A (setAttr (.ref a) f u) Q E s := by
  obtain ⟨t1, ho⟩ := exo_at I.hok e
  obtain ⟨mA, hns, rel⟩ := exd_at I.hok ed
  obtain ⟨hp, g, d, t, os⟩ := s
  refine set_more T I.kIn ho hns (within_of rel) (by rw [List.length_map]; omega) tk fun h' tk' k hn => ?_
  have there : ∃ o, h'.get? dx = some o := hn.elim fun o z => z.elim fun _ z => z.elim fun _ z => ⟨o, z.1⟩
  refine h _ (I.write (t' := tk') (x := dx) (e := dx) (o := exd dx ((f, y) :: fs)) ?_ (.inl rfl) k there
    (exd_ok hn (relO_put ry rel)))
  rw [ed]
  exact True.intro
end
/-- the reading of self.f = e on an exception -/
def tPut (K : PySem.W.Frag) (f : Str) (to te : TE) : TS := fun D σ H => te σ H fun y H1 => to σ H1 fun x H2 =>
  ∃ a C : Addr, x = .ref a ∧ XC K C ∧ PySem.W.takerIn K C f = some none ∧
    ((H2 a = some (exo a C none) ∧ ∀ dx, H2 dx = none → dx ≠ a → D.nx σ (upd (upd H2 dx (exd dx [(f, y)])) a (exo a C (some dx)))) ∨
    ∃ (dx : Addr) (fs : List (Str × V)), H2 a = some (exo a C (some dx)) ∧ H2 dx = some (exd dx fs) ∧ fs.length ≤ 900 ∧
      D.nx σ (upd H2 dx (exd dx ((f, y) :: fs))))
section
variable {X : Cx} {o e : Expr} {es : List Expr} {to te : TE} {ta tk : TA} {f : Str} {p p' p1 p2 pos : Pos}
theorem ps_put (ho : PE X o to) (he : PE X e te)
    (hs : swapsWith e (some (.Attribute o f p')) pos.line X.env = pure false := by rfl) :
    PS X (.Assign [.Attribute o f p'] e pos) (tPut X.K f to te) := by
  constructor
  intro pins s σ H D I h
  refine plainObj_wpAny_Assign_Attribute (thn (he.run pins s σ H _ I h) ?_) hs
  rintro v s1 ⟨y, H1, I1, r1, q1⟩
  refine thn (ho.run pins s1 σ H1 _ I1 q1) ?_
  rintro u s2 ⟨x, H2, I2, r2, a, C, rfl, T, ht, q⟩
  obtain rfl : u = Value.ref a := r2
  rcases q with ⟨ea, q⟩ | ⟨dx, fs, ea, ed, hl, q⟩
  · exact put_first T I2 ea ht r1 fun dx s' n ne J => ⟨σ, _, J, q dx n ne⟩
  · exact put_more T I2 ea ed hl ht r1 fun s' J => ⟨σ, _, J, q⟩
end
end PW
/-! PW1b: an exception class of the program called with keywords too -/
namespace PW
open PySem
section
variable {prog : Program} {w : World} {A : Around} {E : Value → Shared → Prop} {R : Result → Shared → Prop} {h : Heap}
  {g : Array GenState} {d : Drawn} {t : Nat} {os : OsState} {M : Model}
variable {nm q : Str} {C N : Addr} {bs bm bmB : List Value} {hdct : Bool} {sn : List Str} {sub : List Value} {ab : Bool}
  {col : Option Bool} {dd : Option Addr} {k0 k1 k2 k3 k5 : Option Value} {B newId initId : String}
  {rest : List Value} {kw : List (Str × Value)}
theorem new_checked (F : ExcBaseFacts B newId initId bmB) (hT : ∀ X : String, bm.contains (.type X) = bmB.contains (.type X))
    {Q : Unit → Shared → Prop} (hC : h.get? C = some (excClassObj nm q C N bs bm hdct sn sub ab col dd k0 k1 k2 k3 k5 newId))
    (hq : Q () ⟨h, g, d, t, os⟩) : wpAny M A (checkBuiltinCall newId ⟨.ref C :: rest, kw⟩) Q E ⟨h, g, d, t, os⟩ := by
  have has : (Value.ref C :: bm).contains (.type B) = true := by rw [List.contains_cons, hT, F.hasB, Bool.or_true]
  have hstar := F.noStar
  simp only [checkBuiltinCall, F.newKind, F.newSplit, F.newRow]
  repeat (first
    | refine wpAny_loadPart_at hC ?_
    | (refine wpAny_isSubtype_exc hC ?_; rw [has])
    | refine wpAny_staticBase_exc hC ?_
    | refine wpAny_madeBy_exc hC ?_
    | simp only [bne_self_eq_false, Bool.false_eq_true, if_false]
    | wp_step)
  exact hq
theorem new_goes (F : ExcBaseFacts B newId initId bmB) (hT : ∀ X : String, bm.contains (.type X) = bmB.contains (.type X))
    (hC : h.get? C = some (excClassObj nm q C N bs bm hdct sn sub ab col dd k0 k1 k2 k3 k5 newId))
    (hq : R (.ok (.ret (.ref (h.objs.size + 1)))) ⟨(h.push (PySem.W.kdv_tup rest)).push (PySem.HandSPX.excO C h.objs.size), g, d, t, os⟩)
    (hrest : rest.length ≤ sizeLine) :
    codeAny (model prog w) A (.builtin newId ⟨.ref C :: rest, kw⟩) R ⟨h, g, d, t, os⟩ := by
  have hends := F.ends
  have isB : (Value.ref C :: bm).contains (.type B) = true := by rw [List.contains_cons, hT, F.hasB, Bool.or_true]
  have noA : (Value.ref C :: bm).contains (.type "AttributeError") = false := by
    rw [List.contains_cons, hT, F.noAttr]
    rfl
  have noN : (Value.ref C :: bm).contains (.type "NameError") = false := by
    rw [List.contains_cons, hT, F.noName]
    rfl
  refine codeAny_builtinAt F.entry ?_
  unfold Builtin.«BaseException.__new__»
  refine wpAt_bind ?_
  show wpAt _ _ _ (stack >>= _) _ _ _
  refine wpAt_bind (wpAt_stack fun p below => wpAt_of_wpAny ?_)
  wp_walk
  refine wpAt_of_wpAny ?_
  rw [F.owner]
  repeat (first
    | with_reducible refine wpAny_madeHere_exc F.canon hC ?_
    | with_reducible refine wpAny_loadPart_at hC ?_
    | (with_reducible refine wpAny_isSubtype_exc hC ?_; first | rw [isB] | rw [noA] | rw [noN])
    | wp_step)
  show R _ _
  rw [Heap.size_push]
  exact hq
/-- type.__call__ on such a class, its __init__ a def -/
theorem type_goes (F : ExcBaseFacts B newId initId bmB) (hT : ∀ X : String, bm.contains (.type X) = bmB.contains (.type X))
    {fI : Addr} {Q : Fin → Shared → Prop}
    (hC : h.get? C = some (excClassObj nm q C N bs bm hdct sn sub ab col dd k0 k1 k2 k3 k5 newId))
    (hi : W.Looks (model prog w) h (typeLookup (.ref C) "__init__") (some (.ref fI)))
    (hb : ∀ self, W.Looks (model prog w) h (bindSpecial (.ref fI) self) (.ref fI, [self])) (hrest : rest.length ≤ sizeLine)
    (hq : codeAny (model prog w) A (.call (.ref fI) ⟨.ref (h.objs.size + 1) :: rest, kw⟩)
      (fun r s' => match r with
        | .ok (.ret v) => v = .none ∧ Q (.done (.ret (.ref (h.objs.size + 1)))) s'
        | .ok _ => False
        | .error e => E e s') ⟨(h.push (PySem.W.kdv_tup rest)).push (PySem.HandSPX.excO C h.objs.size), g, d, t, os⟩) :
    wpAny (model prog w) A (Builtin.«type.__call__» ⟨.ref C :: rest, kw⟩) Q E ⟨h, g, d, t, os⟩ := by
  repeat (first | with_reducible refine wpAny_loadPart_at hC ?_ | with_reducible refine wpAny_madeBy_exc hC ?_ | wp_step)
  refine codeAny_call_builtin_code (Code.quiet_builtin _ F.quiet) (new_checked F hT hC (new_goes F hT hC ?_ hrest))
  show wpAny _ _ _ _ _ _
  have kp : ∀ b o, h.get? b = some o →
      ((h.push (PySem.W.kdv_tup rest)).push (PySem.HandSPX.excO C h.objs.size)).get? b = some o :=
    fun b o e => Heap.get?_push_of_some _ (Heap.get?_push_of_some _ e)
  have hC1 := kp _ _ hC
  have at1 : ((h.push (PySem.W.kdv_tup rest)).push (PySem.HandSPX.excO C h.objs.size)).get? (h.objs.size + 1)
      = some (PySem.HandSPX.excO C h.objs.size) := by heap_get
  have self : (Value.ref C :: bm).contains (.ref C) = true := by simp
  unfold isInstance
  repeat (first
    | with_reducible refine wpAny_loadPart_at at1 ?_
    | (with_reducible refine wpAny_isSubtype_exc hC1 ?_; rw [self])
    | wp_step)
  show wpAny _ _ (typeLookup (.ref C) _) _ _ _
  refine (hi.keeps kp).at ?_
  refine wpAny_holding (wpAny_bind (((hb (.ref (h.objs.size + 1))).keeps kp).at ?_))
  refine wpAny_bind (wpAny_call (codeAny_mono hq fun r s' z => ?_))
  match r, z with
  | .error _, z => exact z
  | .ok .next, z => exact z.elim
  | .ok .brk, z => exact z.elim
  | .ok .cont, z => exact z.elim
  | .ok (.ret v), z =>
    obtain ⟨rfl, z⟩ := z
    first
      | exact wpAny_pure (wpAny_pure z)
      | (wp_walk; exact z)
/-- C(.., k = v, ..) -/
theorem call_goes (F : ExcBaseFacts B newId initId bmB) (hT : ∀ X : String, bm.contains (.type X) = bmB.contains (.type X))
    {fI : Addr} (hC : h.get? C = some (excClassObj nm q C N bs bm hdct sn sub ab col dd k0 k1 k2 k3 k5 newId))
    (hi : W.Looks (model prog w) h (typeLookup (.ref C) "__init__") (some (.ref fI)))
    (hb : ∀ self, W.Looks (model prog w) h (bindSpecial (.ref fI) self) (.ref fI, [self])) (hrest : rest.length ≤ sizeLine)
    (hq : codeAny (model prog w) (A.under (.builtin "type.__call__" ⟨.ref C :: rest, kw⟩))
      (.call (.ref fI) ⟨.ref (h.objs.size + 1) :: rest, kw⟩) (PySem.W.InitBack (h.objs.size + 1) R)
      ⟨(h.push (PySem.W.kdv_tup rest)).push (PySem.HandSPX.excO C h.objs.size), g, d, t, os⟩) :
    codeAny (model prog w) A (.call (.ref C) ⟨rest, kw⟩) R ⟨h, g, d, t, os⟩ := by
  have f1 := tc_lookup
  have f2 := tc_bind (.ref C)
  have ty : (⟨h, g, d, t, os⟩ : Shared).TypeIs (.ref C) "type" := ⟨_, hC, rfl⟩
  refine codeAny_of_tree ?_
  show wpAny _ _ (callAny (.ref C) _) _ _ _
  repeat (any_goals (first | assumption | with_reducible refine wpAny_loadPart_at hC ?_ | wp_step))
  refine ⟨rfl, ?_⟩
  have L0 : W.Looks (model prog w) h (typeOf (.ref C)) (.type "type") := (W.Looks.ld hC).andThen .now
  have L1 : W.Looks (model prog w) h (isInstance (.ref C) (.type "type")) true := L0.andThen (W.Looks.of_pure tc_sub)
  refine codeAny_call_builtin_at (Code.quiet_builtin _ (by decide +kernel)) entry_typeCall
    (W.check_slot tc_kind tc_split L1 (W.tc_args _ _ _) (type_goes F hT hC hi hb hrest ?_))
  refine codeAny_mono hq fun r s' z => ?_
  match r, z with
  | .error _, z => exact z
  | .ok .next, z => exact z
  | .ok .brk, z => exact z
  | .ok .cont, z => exact z
  | .ok (.ret v), z => exact z
end
end PW
/-! PW1c: exceptions of the program made by an expression -/
namespace PW
open PySem PySem.Spec PyProof.Rows L2
/-- C(..) of an exception class whose __init__ is a def: the exception and its __init__'s promise. g, gV: how the arguments come to the parameters -/
theorem run_X {X : Cx} {C fI : Addr} {k : Nat} {fd : FuncData} {ps : List Str} {sp : Sp} {us : List Value} {kw : List (Str × Value)}
    {vs : List V} {ws : List Value} {pins : List (Addr × Obj)} {σ : L2.St} {H : Hp} {s : Shared} {Q : VK}
    (T : XC X.K C) (iC : PySem.W.findIn X.K (.ref C) "__init__" = some (some (.ref fI)))
    (tI : PySem.W.typeIn X.K (.ref fI) = some (.type "function")) (F : FnOk X.prog X.w X.K X.mg X.base CX0 k fI fd ps sp)
    (hr : Room (k + 1) X.A) (I : Inv X pins σ H s) (hus : us.length ≤ 1000) (rel : Vals vs ws)
    (bnd : ∀ (a : Addr) (s' : Shared), BindsTo s' fd ⟨.ref a :: us, kw⟩ (ps.zip (.ref a :: ws)))
    (h : ∀ a, H a = none → sp (.ref a :: vs) (upd H a (exo a C none)) (fun v H2 => v = .non ∧ Q (.ref a) H2) (fun _ _ _ => False)) :
    wpAny (model X.prog X.w) X.A (call (.ref C) us kw) (EP X pins σ Q) X.xe s := by
  obtain ⟨B, newId, initId, bmB, bf, sf, mk, ov⟩ := T.base
  obtain ⟨nm, N, qn, bs, bm, hdct, sn, sub, ab, col, dd, k0, k1, k2, k3, k5, hC, hT⟩ := PySem.W.excInit_of I.kIn mk
  obtain ⟨hp, g, dr, tk, os⟩ := s
  have hn : H (hp.objs.size + 1) = none := I.hok.fresh (Nat.le_succ _)
  have kk : ∀ b o, hp.get? b = some o →
      ((hp.push (PySem.W.kdv_tup us)).push (PySem.HandSPX.excO C hp.objs.size)).get? b = some o :=
    fun b o e => Heap.get?_push_of_some _ (Heap.get?_push_of_some _ e)
  have hget : ((hp.push (PySem.W.kdv_tup us)).push (PySem.HandSPX.excO C hp.objs.size)).get? (hp.objs.size + 1)
      = some (PySem.HandSPX.excO C hp.objs.size) := by heap_get
  have I2 : Inv X pins σ (upd H (hp.objs.size + 1) (exo (hp.objs.size + 1) C none))
      ⟨(hp.push (PySem.W.kdv_tup us)).push (PySem.HandSPX.excO C hp.objs.size), g, dr, tk, os⟩ :=
    I.laid (t' := tk) (a := hp.objs.size + 1) kk (Nat.le_succ _) (exo_ok hget)
  have q0 := h _ hn
  refine wpAny_call (call_goes bf hT hC (PySem.W.looks_findIn I.kIn iC) (fun self => PySem.W.bind_fn I.kIn self tI)
    (Nat.le_trans hus (by decide)) (codeAny_mono (F.run _ X.stack _ _ ⟨.ref (hp.objs.size + 1) :: us, kw⟩
      (.ref (hp.objs.size + 1) :: ws) (V.ref (hp.objs.size + 1) :: vs) _ _ (hr.make C us kw) (I2.env0.make C us kw) (bnd _ _) (.cons rfl rel) q0) ?_))
  intro r s' z
  match r, z with
  | .error _, z => exact z.elim
  | .ok .next, z => exact z.elim
  | .ok .brk, z => exact z.elim
  | .ok .cont, z => exact z.elim
  | .ok (.ret u), z =>
    obtain ⟨v, H', J, rv, rfl, q⟩ := I2.after z
    exact ⟨rv, .ref (hp.objs.size + 1), H', J, rfl, q⟩

/-- C(e, ..) | C(k = e, ..): the reading -/
def tMkX (C : Addr) (sp : Sp) (ta : TA) : TE := fun σ H Q => ta σ H fun vs H1 => vs.length ≤ 1000 ∧ ∀ a, H1 a = none →
  sp (.ref a :: vs) (upd H1 a (exo a C none)) (fun v H2 => v = .non ∧ Q (.ref a) H2) fun _ _ _ => False
section
variable {X : Cx} {C fI : Addr} {k : Nat} {fd : FuncData} {ps : List Str} {sp : Sp} {x : Str} {p pos : Pos} {e : Expr}
  {es : List Expr} {ta : TA} {kws : List Keyword} {ks : List Str}
theorem pe_mkX (T : XC X.K C) (iC : PySem.W.findIn X.K (.ref C) "__init__" = some (some (.ref fI)))
    (tI : PySem.W.typeIn X.K (.ref fI) = some (.type "function")) (F : FnOk X.prog X.w X.K X.mg X.base CX0 k fI fd ps sp)
    (hr : Room (k + 1) X.A) (hg : Gl X x) (hm : X.mg x = some (.ref C)) (ha : PA X (e :: es) ta)
    (hbs : ∀ (s : Shared) (us : List Value), us.length = ps.length → BindsTo s fd ⟨us, []⟩ (ps.zip us))
    (hdb : (x == ("__debug__" : Str)) = false := by decide)
    (he : starEach (e :: es) X.env = (false, eval e X.env) :: starEach es X.env := by rfl)
    (hpl : (backTo pos (starEach es X.env)).any (·.1) = false := by rfl) :
    PE X (.Call (.Name x p) (e :: es) [] pos) (tMkX C sp ta) := by
  constructor
  intro pins s σ H Q I h
  refine wpAny_Call_Name_kw (ld_glob I hg hm ?_ hdb)
  refine PySem.W.callWith_K (h₀ := X.base) I.ok.mod.kin T.kp (thn (ha.run pos pins s σ H _ I h) ?_) he hpl
  rintro us s1 ⟨vs, H1, I1, r1, hz, q1⟩
  refine ⟨I1.kIn, ?_⟩
  have hl : us.length ≤ 1000 := by rw [← Paired.length r1]; exact hz
  refine run_X T iC tI F hr I1 hl r1 (fun a s' => ?_) q1
  obtain ⟨a0, n0⟩ : ∃ a0, H1 a0 = none := ⟨_, I1.hok.fresh (Nat.le_refl _)⟩
  have ar := F.len _ _ _ _ (q1 a0 n0)
  have e1 := Paired.length r1
  exact hbs s' _ (by simpa [← e1] using ar)
/-- keywords alone; perm: where each keyword's value goes -/
theorem pe_mkXk {perm : {α : Type} → List α → List α} (T : XC X.K C)
    (iC : PySem.W.findIn X.K (.ref C) "__init__" = some (some (.ref fI)))
    (tI : PySem.W.typeIn X.K (.ref fI) = some (.type "function")) (F : FnOk X.prog X.w X.K X.mg X.base CX0 k fI fd ps sp)
    (hr : Room (k + 1) X.A) (hg : Gl X x) (hm : X.mg x = some (.ref C)) (ha : PK X kws ta)
    (hrel : ∀ {vs : List V} {us : List Value}, Vals vs us → Vals (perm vs) (perm us))
    (hbs : ∀ (s : Shared) (a : Addr) (us : List Value), us.length = ks.length →
      BindsTo s fd ⟨[.ref a], ks.zip us⟩ (ps.zip (.ref a :: perm us)))
    (hpm : ∀ {α : Type} (l : List α), (perm l).length = l.length) (hps : ps.length = ks.length + 1)
    (hall : (backToKw pos (keywordEach kws X.env)).all (·.1.isSome) = true := by rfl)
    (hks : (backToKw pos (keywordEach kws X.env)).filterMap (·.1) = ks := by rfl)
    (hdb : (x == ("__debug__" : Str)) = false := by decide)
    (hpl : (backToKw pos (keywordEach kws X.env)).any (·.1.isNone) = false := by rfl) :
    PE X (.Call (.Name x p) [] kws pos) (tMkX C sp (fun σ H Q => ta σ H fun vs H1 => Q (perm vs) H1)) := by
  constructor
  intro pins s σ H Q I h
  refine wpAny_Call_Name_kw (ld_glob I hg hm ?_ hdb)
  refine PySem.W.callWith_KW0 (h₀ := X.base) I.ok.mod.kin T.kp hall (thn (ha.run pos pins s σ H _ I h) ?_) hpl
  rintro us s1 ⟨vs, H1, I1, r1, hz, q1⟩
  refine ⟨I1.kIn, ?_⟩
  rw [hks]
  refine run_X T iC tI F hr I1 (Nat.zero_le _) (hrel r1) (fun a s' => hbs s' a us ?_) q1
  obtain ⟨a0, n0⟩ : ∃ a0, H1 a0 = none := ⟨_, I1.hok.fresh (Nat.le_refl _)⟩
  have ar := F.len _ _ _ _ (q1 a0 n0)
  have e1 := Paired.length r1
  have e2 := hpm vs
  rw [hps, List.length_cons] at ar
  omega

/-- C() where the class has no __init__ of its own -/
theorem pe_mkX0 {B newId initId : String} {bmB : List Value} (T : XC X.K C) (bf : ExcBaseFacts B newId initId bmB)
    (mk : PySem.W.excInitIn X.K C bmB newId = true)
    (iC : PySem.W.findIn X.K (.ref C) "__init__" = some (some (.builtin initId)))
    (hg : Gl X x) (hm : X.mg x = some (.ref C)) (hdb : (x == ("__debug__" : Str)) = false := by decide) :
    PE X (.Call (.Name x p) [] [] pos) (fun _ H Q => ∀ a, H a = none → Q (.ref a) (upd H a (exo a C none))) := by
  constructor
  intro pins s σ H Q I h
  refine wpAny_Call_Name_kw (ld_glob I hg hm ?_ hdb)
  refine PySem.W.callWith_K0 I.kIn T.kp ?_
  obtain ⟨nm, N, qn, bs, bm, hdct, sn, sub, ab, col, dd, k0, k1, k2, k3, k5, hC, hT⟩ := PySem.W.excInit_of I.kIn mk
  have il := PySem.W.looks_findIn (M := model X.prog X.w) I.kIn iC
  obtain ⟨hp, g, dr, tk, os⟩ := s
  refine PySem.W.call_B bf hT hC il (Nat.zero_le _) fun h' k he ht => ?_
  refine ⟨.ref (hp.objs.size + 1), _, I.laid (t' := tk) (a := hp.objs.size + 1) k (Nat.le_succ _) (exo_ok he), rfl,
    h _ (I.hok.fresh (Nat.le_succ _))⟩
end

/-! ### what is asked of an exception that is tracked -/
/-- at a an exception of the class at C, its attributes fs -/
def ExAt (H : Hp) (a C : Addr) (fs : List (Str × V)) : Prop :=
  (H a = some (exo a C none) ∧ fs = []) ∨ ∃ d, H a = some (exo a C (some d)) ∧ H d = some (exd d fs)
theorem ExAt.ext {H H' : Hp} {a C : Addr} {fs : List (Str × V)} (e : ∀ b o, H b = some o → H' b = some o) (x : ExAt H a C fs) :
    ExAt H' a C fs := by
  rcases x with ⟨x, q⟩ | ⟨d, x, y⟩
  · exact .inl ⟨e _ _ x, q⟩
  · exact .inr ⟨d, e _ _ x, e _ _ y⟩
section
variable {X : Cx} {pins : List (Addr × Obj)} {σ : L2.St} {H : Hp} {s : Shared} {a C : Addr} {fs : List (Str × V)}
theorem ExAt.inst (I : Inv X pins σ H s) (x : ExAt H a C fs) : ∃ (t1 : Addr) (d : Option Addr) (od : Option Obj),
    PySem.W.InstAt s.heap a { cls := .ref C, dict := d, data := .fields #[.ref t1, .none, .none, .none, .bool false, .none] } C od ∧
    ∀ f v, fs.lookup f = some v → ∃ u o, od = some o ∧ PySem.W.lookIn f o = some (some u) ∧ RelV v u := by
  rcases x with ⟨x, rfl⟩ | ⟨d, x, y⟩
  · obtain ⟨t1, ho⟩ := exo_at I.hok x
    exact ⟨t1, none, none, ⟨ho, rfl, rfl, trivial⟩, fun f v q => nomatch q⟩
  · obtain ⟨t1, ho⟩ := exo_at I.hok x
    obtain ⟨mA, hn, rel⟩ := exd_at I.hok y
    obtain ⟨od, hod, hl⟩ := lookIn_ns hn
    refine ⟨t1, some d, some od, ⟨ho, rfl, rfl, hod⟩, fun f v q => ?_⟩
    have r := rel f
    rw [q] at r
    obtain ⟨u, hu, ru⟩ := RelO.some_of r
    exact ⟨u, od, rfl, by rw [hl, hu], ru⟩
end
/-- isinstance(e, D) -/
def rIsX (K : PySem.W.Frag) : List V → Hp → VK → Prop := fun xs H Q => ∃ (a C : Addr) (fs : List (Str × V)) (c : V) (u : Value) (b : Bool),
  xs = [.ref a, c] ∧ ClsV c u ∧ XC K C ∧ ExAt H a C fs ∧ PySem.W.kitOne K (.ref C) u = some b ∧ Q (.bl b) H
theorem call_isX {X : Cx} (A : XAll X.K) : CallR X (.builtin "isinstance") (rIsX X.K) := by
  rintro pins s σ H xs us Q I r ⟨a, C, fs, c, u, b, rfl, k, T, x, e, q⟩
  obtain ⟨u1, u2, rfl, r1, r2⟩ := vals2 r
  obtain rfl := k.eq r2
  obtain rfl : u1 = Value.ref a := r1
  obtain ⟨t1, d, od, J, _⟩ := x.inst I
  exact PySem.W.kia_one (PySem.W.kitx_exc T.cl T.ga T.gg T.ex T.ca A.gs A.tk T.mo) I.kIn J e (fun z => nomatch z)
    fun tk => ⟨.bl b, H, I.tok tk, rfl, q⟩
/-- e.f -/
def tAtt (K : PySem.W.Frag) (f : Str) (te : TE) : TE := fun σ H Q => te σ H fun x H1 => ∃ (a C : Addr) (fs : List (Str × V)) (v : V),
  x = .ref a ∧ XC K C ∧ ExAt H1 a C fs ∧ PySem.W.findIn K (.ref C) f = some none ∧ fs.lookup f = some v ∧ Q v H1
theorem pe_att {X : Cx} {e : Expr} {te : TE} {f : Str} {pos : Pos} (he : PE X e te)
    (hb : attributeBase e f X.env (eval e X.env) = eval e X.env := by rfl) : PE X (.Attribute e f pos) (tAtt X.K f te) := by
  constructor
  intro pins s σ H Q I h
  refine attr_of hb (thn (he.run pins s σ H _ I h) ?_)
  rintro u s1 ⟨x, H1, I1, rx, a, C, fs, v, rfl, T, at_, no, l, q⟩
  obtain rfl : u = Value.ref a := rx
  obtain ⟨t1, d, od, J, look⟩ := at_.inst I1
  obtain ⟨u, o, rfl, hu, ru⟩ := look f v l
  exact HandSPX.exc_get I1.kIn J T.ga T.gg T.ex (PySem.W.findObj_own T.hd no rfl hu) (handed_of ru) ⟨v, H1, I1.tok _, ru, q⟩
end PW
/-! PW2: small rules more -/
namespace PW
open PySem PySem.Spec PyProof.Rows L2 Evl
section
variable {X : Cx}
theorem reads_bools {h : Heap} : ∀ {bs : List Bool} {us : List Value}, Vals (bs.map V.bl) us → ReadsAll h us (bs.map PyData.bool) []
  | [], _, r => by
    cases r
    exact .nil
  | b :: bs, _, r => by
    cases r with
    | cons r1 r2 =>
      cases r1
      exact .cons (as := []) (bs := []) (.bool b) (reads_bools r2)
theorem all_bools : ∀ bs : List Bool, (bs.map PyData.bool).all Shape.bool.has = true
  | [] => rfl
  | b :: bs => by
    rw [List.map_cons, List.all_cons, all_bools bs]
    rfl
def rCntB (K : PySem.W.Frag) : V → List V → Hp → VK → Prop := fun x xs H Q => ∃ (p : Addr) (bs : List Bool) (k : Bool), x = .ref p ∧
  xs = [.bl k] ∧ SqL K H p (bs.map V.bl) ∧ Q (.int (countIn (.bool k) (bs.map PyData.bool))) H
/-- xs.count(True) of bools -/
theorem mt_countB : MtR X "list.count" (rCntB X.K) := by
  rintro pins s σ H x xs v us Q I rx rxs ⟨p, bs, k, rfl, rfl, hs, q⟩
  cases rx
  obtain ⟨u, rfl, ru⟩ := rxs.one
  cases ru
  obtain ⟨its, rv, ⟨o, n, ho, hc, hdn, hd⟩, hlen⟩ := I.list hs
  refine count_list_bools (l := p) (vs := its) (hp := s.heap) ⟨o, ho, hc, n, hd⟩ (reads_bools rv) (all_bools bs) ?_
  exact ⟨.int _, H, I.tok _, ⟨_, rfl⟩, q⟩
end
end PW
/-! PW3: readings that extend the heap, more of them -/
namespace PW
open PySem PySem.Spec PyProof.Rows L2 Evl
section
variable {K : PySem.W.Frag} {σ : L2.St} {H H' : Hp} {ta tb te : TE} {t : TA} {x y z v : V} {xs ys : List V}
theorem el_cat {l : Addr} (ha : Ev ta σ H (.ref l)) (hl : H l = some (.lst xs)) (hb : EvL tb σ H ys)
    (hz : xs.length + ys.length ≤ 100000) : EvL (tOp rCat ta tb) σ H (xs ++ ys) := fun H1 e Q q =>
  ha H1 e _ fun H2 e2 => hb H2 (e.trans e2) _ fun p H3 n3 e3 h3 =>
    ⟨l, p, xs, ys, rfl, rfl, ((e.trans e2).trans e3) _ _ hl, h3, sz_of hz, fun r hr =>
      q r _ (fresh_back (e2.trans e3) hr) ((e2.trans e3).trans (Ex.new hr)) upd_same⟩
theorem el_cat2 (ha : EvL ta σ H xs) (hb : EvL tb σ H ys)
    (hz : xs.length + ys.length ≤ 100000) : EvL (tOp rCat ta tb) σ H (xs ++ ys) := fun H1 e Q q =>
  ha H1 e _ fun l H2 n2 e2 h2 => hb H2 (e.trans e2) _ fun p H3 n3 e3 h3 =>
    ⟨l, p, xs, ys, rfl, rfl, e3 _ _ h2, h3, sz_of hz, fun r hr =>
      q r _ (fresh_back (e2.trans e3) hr) ((e2.trans e3).trans (Ex.new hr)) upd_same⟩
theorem ev_isX {c : V} {u : Value} {a C : Addr} {fs : List (Str × V)} {b : Bool} (ha : Ev ta σ H (.ref a)) (hc : Ev tb σ H c)
    (k : ClsV c u) (T : XC K C) (x : ExAt H a C fs) (e : PySem.W.kitOne K (.ref C) u = some b) :
    Ev (tCB (rIsX K) (tCons ta (tCons tb tNil))) σ H (.bl b) :=
  ev_cb (ea_cons ha (ea_cons hc ea_nil)) fun H1 ex Q q => ⟨a, C, fs, c, u, b, rfl, k, T, x.ext ex, e, q H1 (Ex.refl H1)⟩
theorem ev_countB {l : Addr} {bs : List Bool} {k : Bool} (ha : Ev ta σ H (.ref l)) (hl : H l = some (.lst (bs.map V.bl)))
    (hb : Ev tb σ H (.bl k)) : Ev (tBM K "list" (rCntB K) ta (tCons tb tNil)) σ H (.int (countIn (.bool k) (bs.map PyData.bool))) := fun H1 e Q q =>
  ha H1 e _ fun H2 e2 => ⟨.inl ⟨rfl, _, sq_of ((e.trans e2) _ _ hl)⟩, hb H2 (e.trans e2) _ fun H3 e3 =>
    ⟨l, bs, k, rfl, rfl, sq_of (((e.trans e2).trans e3) _ _ hl), q H3 (e2.trans e3)⟩⟩
theorem ev_index {l : Addr} {j : Nat} (ha : Ev ta σ H (.ref l)) (hl : H l = some (.lst xs)) (hb : Ev tb σ H y)
    (fy : flatV y = true) (fx : xs.all flatV = true) (hz : xs[j]? = some z) (hq : eqV z y = true)
    (hno : ∀ (m : Nat) (z' : V), m < j → xs[m]? = some z' → eqV z' y = false) :
    Ev (tBM K "list" (rIndex K) ta (tCons tb tNil)) σ H (.int (j : Nat)) := fun H1 e Q q =>
  ha H1 e _ fun H2 e2 => ⟨.inl ⟨rfl, _, sq_of ((e.trans e2) _ _ hl)⟩, hb H2 (e.trans e2) _ fun H3 e3 =>
    ⟨l, xs, y, j, z, rfl, rfl, sq_of (((e.trans e2).trans e3) _ _ hl), fy, fx, hz, hq, hno, q H3 (e2.trans e3)⟩⟩
/-- what is plain data stays so -/
theorem Dp.bools {l : Addr} {bs : List Bool} (h : H l = some (.lst (bs.map V.bl))) : Dp K H (.ref l) (.list (bs.map PyData.bool)) := by
  refine .lst (sq_of h) ?_
  clear h
  induction bs with
  | nil => exact .nil
  | cons b bs ih => exact .cons (.bl b) ih
mutual
theorem Dp.mono (e : Ex H H') : ∀ {v : V} {d : PyData}, Dp K H v d → Dp K H' v d
  | _, _, .non => .non
  | _, _, .bl b => .bl b
  | _, _, .int i => .int i
  | _, _, .str x => .str x
  | _, _, .lst h r => .lst (ex_l e h) (DpAll.mono e r)
  | _, _, .tup h r => .tup (ex_t e h) (DpAll.mono e r)
theorem DpAll.mono (e : Ex H H') : ∀ {vs : List V} {ds : List PyData}, DpAll K H vs ds → DpAll K H' vs ds
  | _, _, .nil => .nil
  | _, _, .cons h r => .cons (Dp.mono e h) (DpAll.mono e r)
end
mutual
theorem Dat.mono (e : Ex H H') : ∀ {v : V} {d : PyData}, Dat H v d → Dat H' v d
  | _, _, .non => .non
  | _, _, .bl b => .bl b
  | _, _, .int i => .int i
  | _, _, .str x => .str x
  | _, _, .lst h r => .lst (ex_rd e h) (Dats.mono e r)
  | _, _, .tup h r => .tup (ex_rd e h) (Dats.mono e r)
  | _, _, .dic h r => .dic (ex_rd e h) (Dats.mono e r)
theorem Dats.mono (e : Ex H H') : ∀ {vs : List V} {ds : List PyData}, Dats H vs ds → Dats H' vs ds
  | _, _, .nil => .nil
  | _, _, .cons h r => .cons (Dat.mono e h) (Dats.mono e r)
end
theorem ev_eqD {d e : PyData} (ha : Ev ta σ H x) (hb : Ev tb σ H y) (hx : Dp K H x d) (hy : Dp K H y e)
    (s1 : SeqAt.shaped d = true) (s2 : SeqAt.shaped e = true) : Ev (tOp (rEqD K) ta tb) σ H (.bl (PyData.eqv d e)) :=
  ev_op ha hb fun H1 ex Q q => ⟨d, e, Dp.mono ex hx, Dp.mono ex hy, s1, s2, q H1 (Ex.refl H1)⟩
theorem ev_neD {d e : PyData} (ha : Ev ta σ H x) (hb : Ev tb σ H y) (hx : Dp K H x d) (hy : Dp K H y e)
    (s1 : SeqAt.shaped d = true) (s2 : SeqAt.shaped e = true) : Ev (tOp (rNeD K) ta tb) σ H (.bl (!PyData.eqv d e)) :=
  ev_op ha hb fun H1 ex Q q => ⟨d, e, Dp.mono ex hx, Dp.mono ex hy, s1, s2, q H1 (Ex.refl H1)⟩
/-- the second operand a new list -/
theorem ev_eqDL {d e : PyData} (ha : Ev ta σ H x) (hb : EvL tb σ H ys) (hx : Dp K H x d)
    (hy : ∀ H1 p, Ex H H1 → H1 p = some (.lst ys) → Dp K H1 (.ref p) e)
    (s1 : SeqAt.shaped d = true) (s2 : SeqAt.shaped e = true) : Ev (tOp (rEqD K) ta tb) σ H (.bl (PyData.eqv d e)) :=
  ev_opL ha hb fun p H1 hp ex H2 e2 Q q => ⟨d, e, Dp.mono (ex.trans e2) hx, Dp.mono e2 (hy H1 p ex hp), s1, s2, q H2 (Ex.refl H2)⟩
theorem ev_neDL {d e : PyData} (ha : Ev ta σ H x) (hb : EvL tb σ H ys) (hx : Dp K H x d)
    (hy : ∀ H1 p, Ex H H1 → H1 p = some (.lst ys) → Dp K H1 (.ref p) e)
    (s1 : SeqAt.shaped d = true) (s2 : SeqAt.shaped e = true) : Ev (tOp (rNeD K) ta tb) σ H (.bl (!PyData.eqv d e)) :=
  ev_opL ha hb fun p H1 hp ex H2 e2 Q q => ⟨d, e, Dp.mono (ex.trans e2) hx, Dp.mono e2 (hy H1 p ex hp), s1, s2, q H2 (Ex.refl H2)⟩
theorem ev_chain {r r' : R2} {tc : TE} {w : V} {b c : Bool} (ha : Ev ta σ H x) (hb : Ev tb σ H y) (hc : Ev tc σ H w)
    (h1 : RV r x y H (.bl b)) (h2 : b = true → RV r' y w H (.bl c)) : Ev (tChain r r' ta tb tc) σ H (.bl (b && c)) := fun H1 e Q q =>
  ha H1 e _ fun H2 e2 => hb H2 (e.trans e2) _ fun H3 e3 => h1 H3 ((e.trans e2).trans e3) _ fun H4 e4 => ⟨b, rfl, by
    cases b with
    | true =>
      exact hc H4 (((e.trans e2).trans e3).trans e4) _ fun H5 e5 =>
        h2 rfl H5 ((((e.trans e2).trans e3).trans e4).trans e5) _ fun H6 e6 => q H6 ((((e2.trans e3).trans e4).trans e5).trans e6)
    | false => exact q H4 ((e2.trans e3).trans e4)⟩
/-- repr(e) -/
theorem ev_repr {d : PyData} (ha : Ev ta σ H x) (hx : Dat H x d) (sh : d.showable = true) (sz : d.shown.length ≤ sizeLine)
    (dp : d.depth ≤ 40) : Ev (tCB (rRepr K) (tCons ta tNil)) σ H (.str d.shown) :=
  ev_cb (ea_cons ha ea_nil) fun H1 e Q q => ⟨x, d, rfl, Dat.mono e hx, sh, sz, dp, q H1 (Ex.refl H1)⟩
end
end PW
/-! PW4: readings whose value is told by a property -/
namespace PW
open PySem PySem.Spec PyProof.Rows L2 Evl
/-- the abstract heap without p -/
def hide (p : Addr) (H : Hp) : Hp := fun b => if b = p then none else H b
theorem hide_ne {p b : Addr} {H : Hp} (h : b ≠ p) : hide p H b = H b := if_neg h
theorem hide_ex {p : Addr} {H : Hp} : Ex (hide p H) H := fun b o e => by
  by_cases q : b = p
  · rw [q] at e
    exact nomatch (if_pos rfl).symm.trans e
  · exact (hide_ne q).symm.trans e
/-- all but the spring at p is as it was -/
def But (p : Addr) (H H' : Hp) : Prop := ∀ b o, b ≠ p → H b = some o → H' b = some o
theorem But.hide {p : Addr} {H H' : Hp} (h : But p H H') : Ex (hide p H) (hide p H') := fun b o e => by
  by_cases q : b = p
  · rw [q] at e
    exact nomatch (if_pos rfl).symm.trans e
  · exact (hide_ne q).trans (h b o q ((hide_ne q).symm.trans e))
theorem But.of {p : Addr} {H H' : Hp} (h : Ex H H') : But p H H' := fun b o _ e => h b o e
theorem But.trans {p : Addr} {H H1 H2 : Hp} (a : But p H H1) (b : But p H1 H2) : But p H H2 := fun c o n e => b c o n (a c o n e)
theorem Ex.hide {p : Addr} {H H' : Hp} (h : Ex H H') : Ex (hide p H) (hide p H') := (But.of h).hide
/-- a new list at r stands in what is not hidden -/
theorem hide_new {p r : Addr} {H : Hp} {o : HO} (hp : H p ≠ none) (hr : H r = none) : hide p (upd H r o) r = some o :=
  (hide_ne fun (q : r = p) => hp (by rw [← q]; exact hr)).trans upd_same

/-- properties of a value that stay as the heap grows -/
def Mono {α : Type} (R : Hp → α → Prop) : Prop := ∀ H H' v, Ex H H' → R H v → R H' v
def EvR (te : TE) (σ : L2.St) (H : Hp) (R : Hp → V → Prop) : Prop := ∀ H1, Ex H H1 → ∀ Q : VK, (∀ v H2, Ex H1 H2 → R H2 v → Q v H2) → te σ H1 Q
def EvRs (ta : TA) (σ : L2.St) (H : Hp) (R : Hp → List V → Prop) : Prop :=
  ∀ H1, Ex H H1 → ∀ Q : List V → Hp → Prop, (∀ vs H2, Ex H1 H2 → R H2 vs → Q vs H2) → ta σ H1 Q
section
variable {K : PySem.W.Frag} {σ : L2.St} {H H' : Hp} {ta tb te : TE} {t : TA} {x y z v : V} {xs ys : List V} {R : Hp → V → Prop} {S : Hp → List V → Prop}
theorem EvR.mono (h : EvR te σ H R) (e : Ex H H') : EvR te σ H' R := fun H1 a => h H1 (e.trans a)
theorem EvR.imp {R' : Hp → V → Prop} (h : EvR te σ H R) (i : ∀ H1 v, Ex H H1 → R H1 v → R' H1 v) : EvR te σ H R' := fun H1 e Q q =>
  h H1 e Q fun v H2 e2 r => q v H2 e2 (i H2 v (e.trans e2) r)
theorem er_ev (h : Ev te σ H v) : EvR te σ H (fun _ u => u = v) := fun H1 e Q q => h H1 e Q fun H2 e2 => q v H2 e2 rfl
theorem er_of (h : Ev te σ H v) (r : ∀ H1, Ex H H1 → R H1 v) : EvR te σ H R := fun H1 e Q q => h H1 e Q fun H2 e2 => q v H2 e2 (r H2 (e.trans e2))
theorem ers_nil (h : ∀ H1, Ex H H1 → S H1 []) : EvRs tNil σ H S := fun H1 e Q q => q [] H1 (Ex.refl H1) (h H1 e)
theorem ers_cons {S' : Hp → List V → Prop} (hm : Mono R) (h : EvR te σ H R) (hr : EvRs t σ H S)
    (i : ∀ H1 v vs, Ex H H1 → R H1 v → S H1 vs → S' H1 (v :: vs)) : EvRs (tCons te t) σ H S' := fun H1 e Q q =>
  h H1 e _ fun v H2 e2 r => hr H2 (e.trans e2) _ fun vs H3 e3 s =>
    q (v :: vs) H3 (e2.trans e3) (i H3 v vs ((e.trans e2).trans e3) (hm _ _ _ e3 r) s)
/-- a written list of such values: where it lies, and what it holds -/
theorem er_lst (h : EvRs t σ H S) (hm : Mono S) (hz : ∀ H1 vs, S H1 vs → vs.length ≤ 100000) :
    EvR (tLst t) σ H (fun H1 v => ∃ r vs, v = .ref r ∧ H1 r = some (.lst vs) ∧ S H1 vs) := fun H1 e Q q =>
  h H1 e _ fun vs H2 e2 s => ⟨sz_of (hz _ _ s), fun r hr =>
    q (.ref r) _ (e2.trans (Ex.new hr)) ⟨r, vs, rfl, upd_same, hm _ _ _ (Ex.new hr) s⟩⟩

/-! ### plain data, made apart from a spring at p -/
def D1 (p : Addr) (d : PyData) (H : Hp) (v : V) : Prop := Dat (hide p H) v d
def Ds (p : Addr) (ds : List PyData) (H : Hp) (vs : List V) : Prop := Dats (hide p H) vs ds
theorem D1.mono {p : Addr} {d : PyData} : Mono (D1 p d) := fun _ _ _ e h => Dat.mono (Ex.hide e) h
theorem Ds.mono {p : Addr} {ds : List PyData} : Mono (Ds p ds) := fun _ _ _ e h => Dats.mono (Ex.hide e) h
theorem d_cons {p : Addr} {d : PyData} {ds : List PyData} (h : EvR te σ H (D1 p d)) (hr : EvRs t σ H (Ds p ds)) :
    EvRs (tCons te t) σ H (Ds p (d :: ds)) := ers_cons D1.mono h hr fun _ _ _ _ a b => .cons a b
theorem d_nil {p : Addr} : EvRs tNil σ H (Ds p []) := ers_nil fun _ _ => .nil
theorem d_non {p : Addr} : EvR (tC .non) σ H (D1 p .none) := er_of ev_c fun _ _ => .non
theorem d_bl {p : Addr} {b : Bool} : EvR (tC (.bl b)) σ H (D1 p (.bool b)) := er_of ev_c fun _ _ => .bl b
theorem d_int {p : Addr} {i : Int} : EvR (tC (.int i)) σ H (D1 p (.int i)) := er_of ev_c fun _ _ => .int i
theorem d_str {p : Addr} {s : Str} : EvR (tC (.str s)) σ H (D1 p (.str s)) := er_of ev_c fun _ _ => .str s
theorem d_pow {p : Addr} {i j : Int} (h : CPow i j) : EvR (tOp (rI CPow fun i j => .int (i ^ j.toNat)) (tC (.int i)) (tC (.int j))) σ H (D1 p (.int (i ^ j.toNat))) :=
  er_of (ev_op ev_c ev_c (rv_I h)) fun _ _ => .int _
theorem d_neg {p : Addr} {i : Int} : EvR (tUn (rU fun i => .int (-i)) (tC (.int i))) σ H (D1 p (.int (-i))) := er_of (ev_un ev_c ru_neg) fun _ _ => .int _
theorem d_tup {p : Addr} {ds : List PyData} (hp : H p ≠ none) (h : EvRs t σ H (Ds p ds)) (hz : ds.length ≤ 1000) : EvR (tTup t) σ H (D1 p (.tuple ds)) := fun H1 e Q q =>
  h H1 e _ fun vs H2 e2 s => ⟨sz_of (by rw [Dats.len s]; omega), fun r hr => by
    have hp2 : H2 p ≠ none := fun z => by
      obtain ⟨o, ho⟩ := Option.ne_none_iff_exists'.mp hp
      exact nomatch z.symm.trans ((e.trans e2) _ _ ho)
    exact q (.ref r) _ (e2.trans (Ex.new hr)) (.tup (.inl (hide_new hp2 hr)) (Dats.mono (Ex.hide (Ex.new hr)) s))⟩
theorem d_lst {p : Addr} {ds : List PyData} (hp : H p ≠ none) (h : EvRs t σ H (Ds p ds)) (hz : ds.length ≤ 1000) : EvR (tLst t) σ H (D1 p (.list ds)) := fun H1 e Q q =>
  h H1 e _ fun vs H2 e2 s => ⟨sz_of (by rw [Dats.len s]; omega), fun r hr => by
    have hp2 : H2 p ≠ none := fun z => by
      obtain ⟨o, ho⟩ := Option.ne_none_iff_exists'.mp hp
      exact nomatch z.symm.trans ((e.trans e2) _ _ ho)
    exact q (.ref r) _ (e2.trans (Ex.new hr)) (.lst (.inl (hide_new hp2 hr)) (Dats.mono (Ex.hide (Ex.new hr)) s))⟩
theorem d_dic0 {p : Addr} (hp : H p ≠ none) : EvR tDNewK σ H (D1 p (.dict [])) := fun H1 e Q q r hr => by
  have hp2 : H1 p ≠ none := fun z => by
    obtain ⟨o, ho⟩ := Option.ne_none_iff_exists'.mp hp
    exact nomatch z.symm.trans (e _ _ ho)
  exact q (.ref r) _ (Ex.new hr) (.dic (kvs := []) (ds := []) (.inl (hide_new hp2 hr)) .nil)
/-- {'..': e}, e a constant -/
theorem d_dic1 {p : Addr} {s : Str} {i : Int} (hp : H p ≠ none) : EvR (tDisp [(tC (.str s), tC (.int i))]) σ H (D1 p (.dict [(.str s, .int i)])) := fun H1 e Q q r hr => by
  have hp2 : H1 p ≠ none := fun z => by
    obtain ⟨o, ho⟩ := Option.ne_none_iff_exists'.mp hp
    exact nomatch z.symm.trans (e _ _ ho)
  refine ⟨upd_same, [(Sum.inr s, .int i)], rfl, Nat.le_of_ble_eq_true rfl, ?_⟩
  have eq : upd (upd H1 r (.dK [])) r (.dK (mergeK [] [(Sum.inr s, V.int i)])) = upd H1 r (.dK [(Sum.inr s, V.int i)]) := upd_upd
  rw [eq]
  exact q (.ref r) _ (Ex.new hr) (.dic (kvs := [(Sum.inr s, .int i)]) (ds := [.int i]) (.inl (hide_new hp2 hr)) (.cons (.int i) .nil))
/-- a list of such data is told by where it lies -/
theorem s_asgR {D : Ends} {i : Nat} (h : EvR te σ H R) (k : ∀ v H1, Ex H H1 → R H1 v → D.nx (σ.set i (some v)) H1) : tAsg te (gName i) D σ H :=
  h H (Ex.refl H) _ fun v H1 e r => k v H1 e r
theorem q_asgR {D : Ends} {tz : TS} {i : Nat} (h : EvR te σ H R) (k : ∀ v H1, Ex H H1 → R H1 v → tz D (σ.set i (some v)) H1) : tSeq (tAsg te (gName i)) tz D σ H :=
  s_asgR (D := { D with nx := tz D }) h k
/-- a written list of data: the list lies at r -/
def L1 (p : Addr) (ds : List PyData) (H : Hp) (v : V) : Prop := ∃ r vs, v = .ref r ∧ r ≠ p ∧ H r = some (.lst vs) ∧ Ds p ds H vs
theorem L1.mono {p : Addr} {ds : List PyData} : Mono (L1 p ds) := fun H H' v e ⟨r, vs, a, b, c, d⟩ => ⟨r, vs, a, b, e _ _ c, Ds.mono _ _ _ e d⟩
theorem l_lst {p : Addr} {ds : List PyData} (hp : H p ≠ none) (h : EvRs t σ H (Ds p ds)) (hz : ds.length ≤ 1000) : EvR (tLst t) σ H (L1 p ds) := fun H1 e Q q =>
  h H1 e _ fun vs H2 e2 s => ⟨sz_of (by rw [Dats.len s]; omega), fun r hr => by
    have hp2 : H2 p ≠ none := fun z => by
      obtain ⟨o, ho⟩ := Option.ne_none_iff_exists'.mp hp
      exact nomatch z.symm.trans ((e.trans e2) _ _ ho)
    exact q (.ref r) _ (e2.trans (Ex.new hr)) ⟨r, vs, rfl, fun z => hp2 (z ▸ hr), upd_same, Ds.mono _ _ _ (Ex.new hr) s⟩⟩
theorem dats_app {H : Hp} {ds es : List PyData} : ∀ {xs ys : List V}, Dats H xs ds → Dats H ys es → Dats H (xs ++ ys) (ds ++ es)
  | _, _, .nil, b => b
  | _, _, .cons a r, b => .cons a (dats_app r b)
theorem l_cat {p : Addr} {ds es : List PyData} (hp : H p ≠ none) (ha : EvR ta σ H (L1 p ds)) (hb : EvR tb σ H (L1 p es)) (hz : ds.length + es.length ≤ 1000) :
    EvR (tOp rCat ta tb) σ H (L1 p (ds ++ es)) := fun H1 e Q q =>
  ha H1 e _ fun v H2 e2 ⟨r, vs, ev, nr, hr, dr⟩ => hb H2 (e.trans e2) _ fun w H3 e3 ⟨r2, vs2, ew, nr2, hr2, dr2⟩ => by
    subst ev ew
    refine ⟨r, r2, vs, vs2, rfl, rfl, e3 _ _ hr, hr2, sz_of (by rw [Dats.len dr, Dats.len dr2]; omega), fun l hl => ?_⟩
    have hp2 : H3 p ≠ none := fun z => by
      obtain ⟨o, ho⟩ := Option.ne_none_iff_exists'.mp hp
      exact nomatch z.symm.trans (((e.trans e2).trans e3) _ _ ho)
    exact q (.ref l) _ ((e2.trans e3).trans (Ex.new hl)) ⟨l, _, rfl, fun z => hp2 (z ▸ hl), upd_same,
      Dats.mono (Ex.hide (Ex.new hl)) (dats_app (Dats.mono (Ex.hide e3) dr) dr2)⟩
theorem l_var {p : Addr} {ds : List PyData} {i : Nat} {v : V} (h : σ[i]? = some (some v)) (l : L1 p ds H v) : EvR (tVar i) σ H (L1 p ds) :=
  er_of (ev_var h) fun _ e => L1.mono _ _ _ e l
theorem dats_mem {H : Hp} : ∀ {xs : List V} {ds : List PyData} {x : V}, Dats H xs ds → x ∈ xs → ∃ d, d ∈ ds ∧ Dat H x d
  | _, _, _, .nil, h => by cases h
  | _, _, _, .cons a r, h => by
    rcases List.mem_cons.mp h with rfl | h
    · exact ⟨_, List.mem_cons_self, a⟩
    · obtain ⟨d, h1, h2⟩ := dats_mem r h
      exact ⟨d, List.mem_cons_of_mem _ h1, h2⟩
end
end PW
/-! R0: own classes: len, str, repr, ==, !=, bool of an instance; classmethods; making by a star -/
namespace PW
open PySem PySem.Spec PyProof.Rows L2
/-- a def's promise by position -/
theorem toR {P : Program} {w : World} {K : PySem.W.Frag} {mg : Str → Option Value} {base : Heap} {CX : CXT} {k : Nat} {f : Addr} {fd : FuncData} {ps : List Str} {sp : Sp}
    (F : FnOk P w K mg base CX k f fd ps sp) (b : Binds K fd ps []) : FnR P w K mg base CX k f sp := fun A outer s H us vs Q E hr e0 r h => by
  have KX : K.In s.heap := e0.mod.kin.keeps fun b o e => (e0.bs b o e).1
  have hl : (us ++ ([] : List Value)).length = ps.length := by
    rw [List.append_nil, ← r.length]
    exact F.len _ _ _ _ h
  have z := b s us KX hl
  rw [List.append_nil] at z
  exact F.run A outer s H ⟨us, []⟩ us vs Q E hr e0 z r h
section
variable {X : Cx} {CX : CXT} {C g : Addr} {n : Nat} {sp : Sp} {E : XK}
theorem ins_at {pins : List (Addr × Obj)} {σ : L2.St} {H : Hp} {s : Shared} {a dx : Addr} {fs : List (Str × V)} (I : Inv X pins σ H s) (ea : H a = some (.ins C dx fs)) :
    ∃ ox od, PySem.W.InstAt s.heap a ox C od := by
  obtain ⟨mA, O, _, _, _, _⟩ := ins_get I.hok ea
  obtain ⟨od, J, _⟩ := O.look
  exact ⟨_, _, J⟩
/-- len(o) by o's own __len__ -/
def rLenO (C : Addr) (sp : Sp) (E : XK) : List V → Hp → VK → Prop := fun xs H Q => ∃ a dx fs, xs = [V.ref a] ∧ H a = some (.ins C dx fs) ∧
  sp [.ref a] H (fun z H' => ∃ n : Nat, z = .int n ∧ n ≤ 1000000 ∧ Q (.int n) H') E
theorem call_lenO (hs : PySem.W.findIn X.K (.ref C) "__len__" = some (some (.ref g))) (hf : PySem.W.isFn X.K (.ref g) = true) (F : FnR X.prog X.w X.K X.mg X.base CX n g sp)
    (hr : Room (n + 1) X.A) (hx : Passes CX X E) : CallR X (.builtin "len") (rLenO C sp E) := by
  intro pins s σ H xs us Q I r h
  obtain ⟨a, dx, fs, rfl, ea, q⟩ := h
  obtain rfl := Vals.ref1 r
  obtain ⟨ox, od, J⟩ := ins_at I ea
  obtain ⟨m, hF⟩ := I.fr
  refine PySem.W.len_K hF I.ok.mod.kin J hs hf (wpAny_mono (wpAny_call (SlX.run_at (us := [.ref a]) (ws := [.ref a]) F hr.in1 I.env0.in1 hx I (.cons rfl .nil) q)) (fun w s' z => ?_) fun _ _ x => x)
  obtain ⟨z', H', I', rz, i, ei, hi, qz⟩ := z
  subst ei
  obtain ⟨t, e⟩ := (show ∃ t, w = Value.int i t from rz)
  subst e
  exact ⟨⟨by omega, by omega⟩, .int i, H', I'.tok _, ⟨_, rfl⟩, qz⟩
def rStrO (C : Addr) (sp : Sp) (E : XK) : List V → Hp → VK → Prop := fun xs H Q => ∃ a dx fs, xs = [V.ref a] ∧ H a = some (.ins C dx fs) ∧
  sp [.ref a] H (fun z H' => ∃ y : Str, z = .str y ∧ Q (.str y) H') E
/-- str(o) by o's own __str__ -/
theorem call_strO (hs : PySem.W.findIn X.K (.ref C) "__str__" = some (some (.ref g))) (hf : PySem.W.isFn X.K (.ref g) = true) (F : FnR X.prog X.w X.K X.mg X.base CX n g sp)
    (hr : Room (n + 2) X.A) (hx : Passes CX X E) : CallR X (.type "str") (rStrO C sp E) := by
  intro pins s σ H xs us Q I r h
  obtain ⟨a, dx, fs, rfl, ea, q⟩ := h
  obtain rfl := Vals.ref1 r
  obtain ⟨ox, od, J⟩ := ins_at I ea
  have hr2 : Room n X.A.in1.in1 := (show Room (n + 1) X.A.in1 from Room.in1 hr).in1
  refine PySem.W.kso_call hr2.units0 I.kIn J hs hf (wpAny_mono (wpAny_call (SlX.run_at (us := [.ref a]) (ws := [.ref a]) F hr2 I.env0.in1.in1 hx I (.cons rfl .nil) q)) (fun w s' z => ?_) fun _ _ x => x)
  obtain ⟨z', H', I', rz, y, ei, qz⟩ := z
  subst ei
  obtain ⟨t, e⟩ := (show ∃ t, w = Value.str y t from rz)
  subst e
  exact ⟨.str y, H', I', ⟨_, rfl⟩, qz⟩
/-- repr(o) by o's own __repr__ -/
theorem call_reprO (hs : PySem.W.findIn X.K (.ref C) "__repr__" = some (some (.ref g))) (hf : PySem.W.isFn X.K (.ref g) = true) (F : FnR X.prog X.w X.K X.mg X.base CX n g sp)
    (hr : Room (n + 1) X.A) (hx : Passes CX X E) : CallR X (.builtin "repr") (rStrO C sp E) := by
  intro pins s σ H xs us Q I r h
  obtain ⟨a, dx, fs, rfl, ea, q⟩ := h
  obtain rfl := Vals.ref1 r
  obtain ⟨ox, od, J⟩ := ins_at I ea
  obtain ⟨m, hF⟩ := I.fr
  refine PySem.W.repr_K hr.in1.units0 hF I.ok.mod.kin J hs hf (wpAny_mono (wpAny_call (SlX.run_at (us := [.ref a]) (ws := [.ref a]) F hr.in1 I.env0.in1 hx I (.cons rfl .nil) q)) (fun w s' z => ?_) fun _ _ x => x)
  obtain ⟨z', H', I', rz, y, ei, qz⟩ := z
  subst ei
  obtain ⟨t, e⟩ := (show ∃ t, w = Value.str y t from rz)
  subst e
  exact ⟨.str y, H', I', ⟨_, rfl⟩, qz⟩
/-- the type of a value -/
theorem ty_of {pins : List (Addr × Obj)} {σ : L2.St} {H : Hp} {s : Shared} {x : V} {u t : Value} {M : Model} (I : Inv X pins σ H s) (rx : RelV x u) (ty : TyX X.K H x t) : PySem.W.Looks M s.heap (typeOf u) t := by
  have byo : ∀ {a : Addr} {o : Obj}, s.heap.get? a = some o → PySem.W.Looks M s.heap (typeOf (.ref a)) o.cls := fun ho A Q E s' k q => wpAny_typeOf_ref (k _ _ ho) q
  cases ty with
  | base b =>
    cases b with
    | non => cases (show u = Value.none from rx); exact .of_pure rfl
    | bl y => cases (show u = Value.bool y from rx); exact .of_pure rfl
    | int i => obtain ⟨t, q⟩ := (show ∃ t, u = Value.int i t from rx); cases q; exact .of_pure rfl
    | str y => obtain ⟨t, q⟩ := (show ∃ t, u = Value.str y t from rx); cases q; exact .of_pure rfl
    | flt y => obtain ⟨t, q⟩ := (show ∃ t, u = Value.float y t from rx); cases q; exact .of_pure rfl
    | @lst a xs ea =>
      cases (show u = Value.ref a from rx)
      obtain ⟨_, _, n, _, h1⟩ := (show ObjOk X.prog X.w H s.heap a (.lst xs) from I.hok a _ ea)
      exact byo h1
    | @frz a ob xs ea =>
      cases (show u = Value.ref a from rx)
      obtain ⟨_, _, _, n, _, h1⟩ := (show ObjOk X.prog X.w H s.heap a (.frz ob (.lst xs)) from I.hok a _ ea)
      exact byo h1
    | @tup a xs ea =>
      cases (show u = Value.ref a from rx)
      obtain ⟨_, _, _, o, h1, h2, _⟩ := (show ObjOk X.prog X.w H s.heap a (.tup xs) from I.hok a _ ea)
      exact h2 ▸ byo h1
    | @dK a kvs ea =>
      cases (show u = Value.ref a from rx)
      obtain ⟨_, _, vs, _, o, es, ep, h1, h2, _⟩ := (show ObjOk X.prog X.w H s.heap a (.dK kvs) from I.hok a _ ea)
      exact h2.1 ▸ byo h1
    | @dT a kvs ea =>
      cases (show u = Value.ref a from rx)
      obtain ⟨_, _, xs, _, o, es, ep, h1, h2, _⟩ := (show ObjOk X.prog X.w H s.heap a (.dT kvs) from I.hok a _ ea)
      exact h2.1 ▸ byo h1
    | @ins a C dx fs ea cl ha hn htk hm =>
      cases (show u = Value.ref a from rx)
      obtain ⟨ox, od, J⟩ := ins_at I ea
      exact J.type
  | byt y => obtain ⟨t, q⟩ := (show ∃ t, u = Value.bytes y t from rx); cases q; exact .of_pure rfl
  | @set a S n ea =>
    cases (show u = Value.ref a from rx)
    obtain ⟨o, _, _, _, e, ex, _⟩ := I.hok a _ ea
    exact ex.1 ▸ byo e
  | @kList a o e c =>
    cases (show u = Value.ref a from rx)
    exact c ▸ byo (I.kIn a o e)
  | @kTuple a o e c =>
    cases (show u = Value.ref a from rx)
    exact c ▸ byo (I.kIn a o e)
  | @kDict a o e c =>
    cases (show u = Value.ref a from rx)
    exact c ▸ byo (I.kIn a o e)
  | @fTuple a ob xs ea =>
    cases (show u = Value.ref a from rx)
    obtain ⟨_, _, _, _, o, h1, h2, _⟩ := (show ObjOk X.prog X.w H s.heap a (.frz ob (.tup xs)) from I.hok a _ ea)
    exact h2 ▸ byo h1
  | @fDict a ob kvs ea =>
    cases (show u = Value.ref a from rx)
    obtain ⟨_, _, _, vs, _, o, es, ep, h1, h2, _⟩ := (show ObjOk X.prog X.w H s.heap a (.frz ob (.dK kvs)) from I.hok a _ ea)
    exact h2.1 ▸ byo h1
/-- o == x by o's own __eq__ -/
def rEqO (K : PySem.W.Frag) (C : Addr) (sp : Sp) (E : XK) : R2 := fun x y H Q => ∃ a dx fs t, x = .ref a ∧ H a = some (.ins C dx fs) ∧ TyX K H y t ∧ PySem.W.notFirst K C t = true ∧ sp [x, y] H Q E
theorem op_eqO (hs : PySem.W.findIn X.K (.ref C) "__eq__" = some (some (.ref g))) (hf : PySem.W.isFn X.K (.ref g) = true) (F : FnR X.prog X.w X.K X.mg X.base CX n g sp)
    (hr : Room n X.A) (hx : Passes CX X E) : OpR X (compareOp .Eq) (rEqO X.K C sp E) := by
  intro pins s σ H x y v u Q I rx ry h
  obtain ⟨a, dx, fs, t, rfl, ea, ty, hn, q⟩ := h
  cases (show v = Value.ref a from rx)
  obtain ⟨ox, od, J⟩ := ins_at I ea
  obtain ⟨m, hF⟩ := I.fr
  show wpAny _ _ (richCompare .Eq _ _) _ _ _
  refine PySem.W.cmp_K (op := .Eq) (tb := t) hr.units0 hF I.ok.mod.kin J (ty_of I ry ty) hn hs hf ?_
  refine wpAny_mono (wpAny_call (run_fnR (us := [.ref a, u]) (vs := [.ref a, y]) F hr hx I (.cons rfl (.cons ry .nil)) q)) (fun w s' z => ?_) fun _ _ x => x
  obtain ⟨z', H', I', rz, qz⟩ := z
  exact SlX.cmpback rz ⟨z', H', I', rz, qz⟩
end
end PW
namespace PW
open PySem PySem.Spec PyProof.Rows L2
section
variable {prog : Program} {w : World} {A : Around} {E : Value → Shared → Prop} {s : Shared} {K : PySem.W.Frag} {x C f : Addr} {ox : Obj} {od : Option Obj} {b tb : Value}
theorem bound_B {M : Model} {name : Str} {id : String} {args : List Value} {Q : Option Value → Shared → Prop} (X : K.In s.heap) (I : PySem.W.InstAt s.heap x ox C od)
    (hs : PySem.W.findIn K (.ref C) name = some (some (.builtin id))) (hb : ∀ self, bindSpecial (.builtin id) self = pure (.builtin id, [self]))
    (h : wpAny M A (call (.builtin id) (.ref x :: args)) (fun v => Q (some v)) E s) : wpAny M A (callSpecialIfBound? (.ref x) name args) Q E s := by
  unfold callSpecialIfBound? bindSpecialIfBound?
  refine wpAny_holding (wpAny_bind (wpAny_bind (wpAny_bind (I.type.here ((PySem.W.looks_findIn X hs).here (wpAny_bind (wpAny_askSetting (wpAny_ite ?_))))))))
  have fin : wpAny M A (call (.builtin id) ([.ref x] ++ args) >>= fun v => pure (some v)) Q E s := wpAny_bind (wpAny_mono h (fun v s' z => wpAny_pure z) fun _ _ z => z)
  have go : PySem.W.Looks M s.heap (bindSpecial (.builtin id) (.ref x)) (.builtin id, [.ref x]) := .of_pure (hb _)
  split
  · exact wpAny_bind (go.here (wpAny_pure (by exact fin)))
  · exact wpAny_tryCatch (wpAny_bind (go.here (wpAny_pure (by exact fin))))
/-- a comparison that the left one's own attempt answers -/
theorem cmp_by {op : CmpOp} {Q : Value → Shared → Prop} (hu : A.units < cLine) (X : K.In s.heap) (I : PySem.W.InstAt s.heap x ox C od) (hb : PySem.W.Looks (model prog w) s.heap (typeOf b) tb)
    (hn : PySem.W.notFirst K C tb = true) (one : wpAny (model prog w) A (tryCompare (.ref x) (cmpInfo op).2.1 b) (fun r s' => ∃ v, r = some v ∧ Q v s') E s) :
    wpAny (model prog w) A (richCompare op (.ref x) b) Q E s := by
  have fin : wpAny (model prog w) A (tryCompare (.ref x) (cmpInfo op).2.1 b) (fun r s' => ∃ v, r = some v ∧ Q v s') E s := one
  unfold richCompare
  rw [oneThing_ref]
  refine wpAny_holding (wpAny_bind (wpAny_cRoomFor hu (wpAny_bind (I.type.here (wpAny_bind (hb.here ?_))))))
  by_cases q : (Value.ref C != tb) = true
  · have e : PySem.W.subIn K tb (.ref C) = some false := by
      rcases Bool.or_eq_true_iff.mp hn with e | e
      · have := beq_iff_eq.mp e
        subst this
        simp at q
      · exact beq_iff_eq.mp e
    rw [if_pos q]
    refine wpAny_bind ((PySem.W.looks_subIn X e).here ?_)
    simp only [if_false, Bool.false_eq_true]
    refine wpAny_bind (wpAny_mono fin (fun r s' z => ?_) fun _ _ e => e)
    obtain ⟨v, rfl, hq⟩ := z
    exact wpAny_pure hq
  · rw [if_neg q]
    refine wpAny_bind (wpAny_pure ?_)
    simp only [if_false, Bool.false_eq_true]
    refine wpAny_bind (wpAny_mono fin (fun r s' z => ?_) fun _ _ e => e)
    obtain ⟨v, rfl, hq⟩ := z
    exact wpAny_pure hq
theorem ne_by {Q : Value → Shared → Prop} (hu : A.units < cLine) (hu1 : A.in1.units < cLine) (X : K.In s.heap) (I : PySem.W.InstAt s.heap x ox C od) (hb : PySem.W.Looks (model prog w) s.heap (typeOf b) tb)
    (hn : PySem.W.notFirst K C tb = true) (hne : PySem.W.findIn K (.ref C) "__ne__" = some (some (.builtin "object.__ne__"))) (hm : PySem.W.mroIn K C (.type "object") = some true)
    (hs : PySem.W.findIn K (.ref C) "__eq__" = some (some (.ref f))) (hf : PySem.W.isFn K (.ref f) = true)
    (h : wpAny (model prog w) A.in1 (call (.ref f) [.ref x, b]) (fun v s' => ∃ k, v = .bool k ∧ Q (.bool (!k)) s') E s) : wpAny (model prog w) A (richCompare .NotEq (.ref x) b) Q E s := by
  refine cmp_by hu X I hb hn ?_
  unfold tryCompare
  refine wpAny_bind (bound_B X I hne PySem.F.cmp_object.ne.bind (wpAny_call (codeAny_call_builtin PySem.F.cmp_object.ne.plain PySem.F.cmpEntry_ne
    (PySem.W.check_slot PySem.F.cmpKind_ne PySem.F.cmpSplit_ne (I.type.andThen (PySem.W.looks_mroIn X hm)) (PySem.F.cmpArgs_ne _ _) ?_))))
  unfold Builtin.«object.__ne__»
  refine wpAny_bind (m := slotArgs "__ne__" 1 _) (wpAny_pure (wpAny_bind (m := cRoomFor _ _) (wpAny_cRoomFor hu1 ?_)))
  refine wpAny_bind (m := callSpecialIfBound? (.ref x) (Str.ofString "__eq__") [b]) (PySem.W.ifBound_K X I hs hf (wpAny_mono h (fun v s' z => ?_) fun _ _ z => z))
  obtain ⟨k, rfl, hq⟩ := z
  refine wpAny_bind (m := truthy (.bool k)) (wpAny_truthy_bool (wpAny_pure ?_))
  exact wpAny_pure ⟨_, rfl, hq⟩
end
section
variable {X : Cx} {CX : CXT} {C g : Addr} {n : Nat} {sp : Sp} {E : XK}
/-- o != x by o's own __eq__ -/
def rNeO (K : PySem.W.Frag) (C : Addr) (sp : Sp) (E : XK) : R2 := fun x y H Q => ∃ a dx fs t, x = .ref a ∧ H a = some (.ins C dx fs) ∧ TyX K H y t ∧ PySem.W.notFirst K C t = true ∧
  sp [x, y] H (fun z H' => ∃ k : Bool, z = .bl k ∧ Q (.bl (!k)) H') E
theorem op_neO (hs : PySem.W.findIn X.K (.ref C) "__eq__" = some (some (.ref g))) (hne : PySem.W.findIn X.K (.ref C) "__ne__" = some (some (.builtin "object.__ne__"))) (hm : PySem.W.mroIn X.K C (.type "object") = some true)
    (hf : PySem.W.isFn X.K (.ref g) = true) (F : FnR X.prog X.w X.K X.mg X.base CX n g sp) (hr : Room (n + 1) X.A) (hx : Passes CX X E) : OpR X (compareOp .NotEq) (rNeO X.K C sp E) := by
  intro pins s σ H x y v u Q I rx ry h
  obtain ⟨a, dx, fs, t, rfl, ea, ty, hn, q⟩ := h
  cases (show v = Value.ref a from rx)
  obtain ⟨ox, od, J⟩ := ins_at I ea
  show wpAny _ _ (richCompare .NotEq _ _) _ _ _
  refine ne_by hr.units0 hr.in1.units0 I.kIn J (ty_of I ry ty) hn hne hm hs hf ?_
  refine wpAny_mono (wpAny_call (SlX.run_at (us := [.ref a, u]) (ws := [.ref a, y]) F hr.in1 I.env0.in1 hx I (.cons rfl (.cons ry .nil)) q)) (fun w s' z => ?_) fun _ _ x => x
  obtain ⟨z', H', I', rz, k, ek, qz⟩ := z
  subst ek
  obtain rfl : w = Value.bool k := rz
  exact ⟨k, rfl, .bl (!k), H', I', rfl, qz⟩
end
end PW
namespace PW
open PySem PySem.Spec PyProof.Rows L2
section
variable {prog : Program} {w : World} {A : Around} {E : Value → Shared → Prop} {s : Shared} {K : PySem.W.Frag} {x C f : Addr} {ox : Obj} {od : Option Obj}
theorem truthy_len {Q : Bool → Shared → Prop} (X : K.In s.heap) (I : PySem.W.InstAt s.heap x ox C od) (hb : PySem.W.findIn K (.ref C) "__bool__" = some none)
    (hl : PySem.W.findIn K (.ref C) "__len__" = some (some (.ref f))) (hf : PySem.W.isFn K (.ref f) = true)
    (h : wpAny (model prog w) A.in1 (call (.ref f) [.ref x]) (fun v s' => ∃ n t, v = .int n t ∧ 0 ≤ n ∧ n < 2 ^ 63 ∧ Q (n != 0) { s' with toks := s'.toks + 1 }) E s) :
    wpAny (model prog w) A (truthy (.ref x)) Q E s := by
  have key : wpAny (model prog w) A (runValue (.builtin "len" ⟨[.ref x], []⟩)) (fun r s' => ∃ n t, r = .int n t ∧ Q (n != 0) s') E s := by
    refine wpAny_runValue (codeAny_builtin entry_len ?_)
    rw [Around.under_plainId plain_len _]
    unfold Builtin.«len»
    refine wpAny_bind (m := oneArg "len" _) (wpAny_pure (wpAny_bind (m := callSpecial? (.ref x) (Str.ofString "__len__")) (PySem.W.special_fn X I hl (beq_iff_eq.mp hf) (wpAny_mono h (fun r s' hr => ?_) fun _ _ y => y))))
    obtain ⟨n, t, rfl, h0, h1, hq⟩ := hr
    refine wpAny_bind (wpAny_holding (wpAny_pure (wpAny_bind (wpAny_letGo ?_))))
    have a1 : ¬ n < 0 := by omega
    have a2 : ¬ n ≥ 2 ^ 63 := by omega
    simp only [if_neg a1, if_neg a2]
    exact wpAny_bind (wpAny_mkInt (wpAny_pure ⟨n, _, rfl, hq⟩))
  unfold truthy
  refine wpAny_bind (m := callSpecial? (.ref x) (Str.ofString "__bool__")) (wpAny_bind (wpAny_bind (I.type.here ((PySem.W.looks_findIn X hb).here (wpAny_pure (wpAny_bind (wpAny_bind (I.type.here ((PySem.W.looks_findIn X hl).here ?_)))))))))
  refine wpAny_bind (wpAny_mono key (fun r s' hr => ?_) fun _ _ y => y)
  obtain ⟨n, t, rfl, hq⟩ := hr
  exact wpAny_pure hq
theorem bool_len {Q : Value → Shared → Prop} (X : K.In s.heap) (I : PySem.W.InstAt s.heap x ox C od) (hb : PySem.W.findIn K (.ref C) "__bool__" = some none)
    (hl : PySem.W.findIn K (.ref C) "__len__" = some (some (.ref f))) (hf : PySem.W.isFn K (.ref f) = true)
    (h : wpAny (model prog w) A.in1.in1.in1 (call (.ref f) [.ref x]) (fun v s' => ∃ n t, v = .int n t ∧ 0 ≤ n ∧ n < 2 ^ 63 ∧ Q (.bool (n != 0)) { s' with toks := s'.toks + 1 }) E s) :
    wpAny (model prog w) A (call (.type "bool") [.ref x]) Q E s := by
  refine callType_codes (T := "bool") (Bi := Builtin.«object.__init__») (Q₁ := fun r s₁ => ∃ k, r = .bool k ∧ Q r s₁) PySem.F.called_bool (PySem.F.typeCall_bool_1 _) PySem.F.entry_object_init ?_ ?_
  · refine codeAny_of_tree ?_
    show wpAny _ A.in1.in1 (checkBuiltinCall "bool.__new__" ⟨[.type "bool", .ref x], []⟩ >>= fun _ => again (.builtin "bool.__new__" ⟨[.type "bool", .ref x], []⟩)) _ _ s
    refine wpAny_bind (wpAny_of_eq (PySem.F.newCall_bool_1 _) (wpAny_pure ⟨plainId_quiet (by decide +kernel) _, codeAny_builtin PySem.F.entry_bool_new ?_⟩))
    rw [Around.under_plainId (by decide +kernel) _]
    have fin : wpAny (model prog w) A.in1.in1 (truthy (.ref x)) (fun k s₁ => Q (.bool k) s₁) E s :=
      truthy_len X I hb hl hf (wpAny_mono h (fun v s' z => z) fun _ _ z => z)
    unfold Builtin.«bool.__new__»
    refine wpAny_bind (m := isType _) (wpAny_pure (wpAny_bind (m := isSubtype _ _) (wpAny_of_eq PySem.F.conv_sub_bool (wpAny_bind (m := someArgs "bool" 0 1 _) (wpAny_pure ?_)))))
    exact wpAny_bind (wpAny_mono fin (fun k s₁ hk => wpAny_pure ⟨k, rfl, hk⟩) fun _ _ z => z)
  · rintro obj s₁ ⟨k, rfl, hq⟩
    exact ⟨PySem.typeIs_bool _ _, PySem.F.args_object_init_2 _ _, object_init_meets PySem.F.called_bool.init.lookup PySem.F.called_bool.made (by decide) prog w A.in1 _ s₁ ⟨PySem.typeIs_bool _ _, rfl, hq⟩⟩
end
section
variable {X : Cx} {CX : CXT} {C g : Addr} {n : Nat} {sp : Sp} {E : XK}
/-- bool(o) by o's own __len__ -/
def rBoolO (C : Addr) (sp : Sp) (E : XK) : List V → Hp → VK → Prop := fun xs H Q => ∃ a dx fs, xs = [V.ref a] ∧ H a = some (.ins C dx fs) ∧
  sp [.ref a] H (fun z H' => ∃ n : Nat, z = .int n ∧ n ≤ 1000000 ∧ Q (.bl ((n : Int) != 0)) H') E
theorem call_boolO (hb : PySem.W.findIn X.K (.ref C) "__bool__" = some none) (hs : PySem.W.findIn X.K (.ref C) "__len__" = some (some (.ref g))) (hf : PySem.W.isFn X.K (.ref g) = true)
    (F : FnR X.prog X.w X.K X.mg X.base CX n g sp) (hr : Room (n + 3) X.A) (hx : Passes CX X E) : CallR X (.type "bool") (rBoolO C sp E) := by
  intro pins s σ H xs us Q I r h
  obtain ⟨a, dx, fs, rfl, ea, q⟩ := h
  obtain rfl := Vals.ref1 r
  obtain ⟨ox, od, J⟩ := ins_at I ea
  have hr3 : Room n X.A.in1.in1.in1 := (show Room (n + 1) X.A.in1.in1 from (show Room (n + 2) X.A.in1 from Room.in1 hr).in1).in1
  refine bool_len I.kIn J hb hs hf (wpAny_mono (wpAny_call (SlX.run_at (us := [.ref a]) (ws := [.ref a]) F hr3 I.env0.in1.in1.in1 hx I (.cons rfl .nil) q)) (fun w s' z => ?_) fun _ _ x => x)
  obtain ⟨z', H', I', rz, i, ei, hi, qz⟩ := z
  subst ei
  obtain ⟨t, e⟩ := (show ∃ t, w = Value.int i t from rz)
  subst e
  exact ⟨_, _, rfl, by omega, by omega, .bl _, H', I'.tok _, rfl, qz⟩
end
/-! ### classmethods called by name, and the class in a local called with a star -/
section
variable {X : Cx} {CX : CXT} {k : Nat} {C p g : Addr} {mc : Value} {sp : Sp} {E : XK} {o : Expr} {m : Str} {pos apos : Pos} {ta : TE} {t : TA} {pl : Sem Bool} {kws : List Keyword} {ks : List Str}
  {fd : FuncData} {ps : List Str}
/-- e.m(k = v, ..), e the class at C, m a classmethod; the keywords in the order of the parameters -/
theorem pe_cmethK (he : PE X o ta) (r : ClX.CRead X.K C mc) (c : ClX.CMet X.K C mc m p g) (F : FnOk X.prog X.w X.K X.mg X.base CX k g fd ps sp) (hr : Room k X.A) (hx : Passes CX X E) (ha : PK X kws t)
    (hbs : ∀ (s : Shared) (a : Addr) (us : List Value), us.length = ks.length → BindsTo s fd ⟨[.ref a], ks.zip us⟩ (ps.zip (.ref a :: us)))
    (hps : ps.length = ks.length + 1)
    (hall : (backToKw pos (keywordEach kws X.env)).all (·.1.isSome) = true := by rfl)
    (hks : (backToKw pos (keywordEach kws X.env)).filterMap (·.1) = ks := by rfl)
    (hpl : (backToKw pos (keywordEach kws X.env)).any (·.1.isNone) = false := by rfl)
    (ht : eval (.Call (.Attribute o m apos) [] kws pos) X.env = (do
      let ov ← eval o X.env
      standAt apos.atName
      let (f, first) ← holding [ov] (getMethod ov m pl)
      callWith pos f first (backTo pos (starEach [] X.env)) (backToKw pos (keywordEach kws X.env))) := by rfl) :
    PE X (.Call (.Attribute o m apos) [] kws pos) (ClX.tCMeth C sp E ta t) := by
  refine ⟨fun pins s σ H Q I h => ?_⟩
  refine PySem.W.methodCall_KW (pl := pl) (thn (he.run pins s σ H _ I h) fun u s1 ⟨x, H1, I1, rx, ex, q⟩ => ?_) ht
  subst ex
  obtain rfl : u = Value.ref C := rx
  refine ClX.getmethcm_ok I1 r c fun s2 I2 => ?_
  refine PySem.W.callWith_of (by rw [hpl]; rfl) (PySem.W.keeps_M c.fi) (PyProof.Rows.evalArgs_kw2_nil hall (thn (ha.run pos _ s2 σ H1 _ I2 q) fun us s3 ⟨vs, H2, I3, rv, q2⟩ => ⟨⟨ClX.pin_at I3, I3.kIn⟩, ?_⟩))
  rw [hks]
  have hl : us.length = ks.length := by
    have := F.len _ _ _ _ q2
    have e := rv.length
    rw [hps, List.length_cons] at this
    omega
  have z : wpAny (model X.prog X.w) X.A (call (.ref s1.heap.objs.size) [] (ks.zip us)) (EP X ((s1.heap.objs.size, PySem.W.methodObj (.ref g) (.ref C)) :: pins) σ Q) X.xe s3 := by
    refine wpAny_call (PySem.W.method_call (ClX.pin_at I3) ?_)
    refine codeAny_mono (F.run X.A X.stack s3 H2 ⟨[.ref C], ks.zip us⟩ (.ref C :: us) (.ref C :: vs) Q E hr I3.env0 (hbs s3 C us hl) (.cons rfl rv) q2) fun r s' hq => ?_
    match r, hq with
    | .error er, hq => exact hx _ σ H2 s3 er s' I3 hq
    | .ok (.ret u), hq => exact I3.after hq
    | .ok .next, hq => exact False.elim hq
    | .ok .brk, hq => exact False.elim hq
    | .ok .cont, hq => exact False.elim hq
  exact thn z fun _ _ y => ClX.unpinE y
end
section
variable {X : Cx} {CX : CXT} {k : Nat} {f C : Addr} {sp : Sp} {E : XK} {x : Str} {e : Expr} {te tf : TE} {p pos sp_ : Pos}
/-- c(*e), c a name that holds the class at C -/
def tMakeS (K : PySem.W.Frag) (C : Addr) (sp : Sp) (E : XK) (tf te : TE) : TE := fun σ H Q => tf σ H fun c H0 => c = .ref C ∧ te σ H0 fun y H1 => ∃ a xs, y = V.ref a ∧ (SqT K H1 a xs ∨ SqL K H1 a xs) ∧
  ∀ x dx, H1 x = none → H1 dx = none → dx ≠ x → sp (V.ref x :: xs) (upd (upd H1 dx (.own x)) x (.ins C dx [])) (fun v H2 => v = .non ∧ Q (.ref x) H2) E
theorem pe_makeS (M : Mk X.K C f) (F : FnR X.prog X.w X.K X.mg X.base CX k f sp) (hr : Room (k + 1) X.A) (hx : Passes CX X E) (hc : PE X (.Name x p) tf) (he : PE X e te)
    (ht : eval (.Call (.Name x p) [.Starred e sp_] [] pos) X.env = (do callWith pos (← eval (.Name x p) X.env) [] (backTo pos (starEach [.Starred e sp_] X.env)) (backToKw pos (keywordEach [] X.env))) := by rfl)
    (hst : starEach [.Starred e sp_] X.env = [(true, eval e X.env)] := by rfl) :
    PE X (.Call (.Name x p) [.Starred e sp_] [] pos) (tMakeS X.K C sp E tf te) := by
  refine ⟨fun pins s σ H Q I h => ?_⟩
  refine Call_ (thn (hc.run pins s σ H _ I h) fun u s1 ⟨y, H0, I0, ry, ey, q⟩ => ?_) ht
  subst ey
  obtain rfl : u = Value.ref C := ry
  refine PySem.W.callWith_S (h₀ := X.base) I0.ok.mod.kin M.kp (thn (he.run pins s1 σ H0 _ I0 q) fun v s2 ⟨z, H1, I1, rz, a, xs, ez, hxs, q1⟩ => ?_) hst
  subst ez
  obtain rfl : v = Value.ref a := rz
  exact StX.star_any I1 hxs fun us s3 I2 rv => ⟨I2.kIn, StX.run_makeR M F hr hx I2 rv q1⟩
end
end PW
/-! R1: exceptions of the program raised: what makes one that is tracked makes one that is raised -/
namespace PW
open PySem PySem.Spec PyProof.Rows L2
theorem pmk_exo {X : Cx} {e : Expr} {te : TE} (hx : X.ex = []) (he : PE X e te) :
    PMk X e (fun σ H Q => te σ H fun x H1 => ∃ a C d, x = .ref a ∧ H1 a = some (exo a C d) ∧ Fr0 X.H_0 a ∧ Raises X (.ref C) ∧ Q (.ref C) d (delH H1 a)) := by
  intro pins s σ H Q I h
  refine wpAny_mono (he.run pins s σ H _ I h) (fun u s1 hu => ?_) fun _ _ x => x
  obtain ⟨v, H1, I1, r1, a, C, d, rfl, ha, h0, hr, q⟩ := hu
  cases r1
  obtain ⟨t1, ho⟩ := exo_at I1.hok ha
  obtain ⟨G, gs, ga, J⟩ := I1.untrack ha h0 hx
  exact ⟨a, _, _, { s1 with heap := G }, delH H1 a, .ref C, d, rfl, J, gs, ga, ho, ⟨rfl, rfl⟩, rfl, rfl, delH_same, rfl, I1.bare, hr, q⟩
end PW
/-! R2: defs that are called in an except suite with the exception that is handled -/
namespace PW
open PySem PySem.Spec PyProof.Rows L2
open L2H (RoomH Hot1 PinOk cxH inv_startH)
/-- a def's promise where the exception p is handled; the promise may speak of p -/
structure FnP (P : Program) (w : World) (K : PySem.W.Frag) (mg : Str → Option Value) (base : Heap) (CX : CXT) (k : Nat) (f : Addr) (fd : FuncData) (ps : List Str) (sp : Addr × Obj → Sp) : Prop where
  arity : ∀ p vs H Q E, sp p vs H Q E → vs.length = ps.length
  goes : ∀ (A : Around) (outer : List Env) (s : Shared) (H : Hp) (args : Args) (us : List Value) (vs : List V) (Q : VK) (E : XK) (p : Addr × Obj), RoomH k A → PinOk outer H s p →
    Env0 P w K mg base A outer s H → BindsTo s fd args (ps.zip us) → Vals vs us → sp p vs H Q E → codeAny (model P w) A (.call (.ref f) args) (CR CX outer P w H s Q E) s
section
variable {P : Program} {w : World} {K : PySem.W.Frag} {mg : Str → Option Value} {base : Heap}
theorem okP {x qual : Str} {st : Stmt} {f : Addr} {fd : FuncData} {N ps : List Str} {k : Nat} {sp : Addr × Obj → Sp}
    (F : Fun K x qual st f fd) (S : FnScope N ps (defScope st)) (len : ∀ p vs H Q E, sp p vs H Q E → vs.length = ps.length)
    (hbody : ∀ (cdv : Value) (A : Around) (outer : List Env) (s : Shared) (H : Hp) (vs : List V) (Q : VK) (E : XK) (p : Addr × Obj),
      RoomH k (A.deeper (envOfC qual (defScope st) s.heap.objs.size f cdv)) → sp p vs H Q E →
      ∃ t, PSs (cxH CX0 P w K mg base N qual (defScope st) f cdv A outer s H E p).nox (defBody st) t ∧ t { nx := fun _ H' => Q .non H', rt := Q } (start N vs) H) :
    FnP P w K mg base CX0 (k + 1) f fd ps sp := by
  obtain ⟨oc, od, kV, doc, pm, an, cdv, ct, osl, rfl, lk, hcd⟩ := F.ex
  refine ⟨len, fun A outer s H args us vs Q E p room pin env bnd rel hsp => ?_⟩
  have hl := len _ _ _ _ _ hsp
  have kept : ∀ b o, base.get? b = some o → s.heap.get? b = some o := fun b o e => (env.bs b o e).1
  have KX : K.In s.heap := env.mod.kin.keeps kept
  have pars : ∀ y ∈ ps.zip us, (defScope st).names.lookup y.1 = some .local ∨
      ((defScope st).names.lookup y.1 = some .cell ∧
        ((cellsFrom (s.heap.objs.size + 1) (defScope st).names []).lookup y.1).isSome = true) := by
    intro y hy
    obtain ⟨n, v⟩ := y
    exact (S.par n (List.of_mem_zip hy).1).imp id fun q => ⟨q, PySem.W.cellsFrom_some _ _ _ (.inl q)⟩
  refine codeAny_call_function room.depth (KX _ _ lk) rfl S.co S.gen rfl
    (PySem.W.codeRec_of KX hcd) (bnd _ _ _ _ ?_)
  refine wpAny_newFunctionEnv_cells S.kind pars ?_
  intro env' he s1 x
  subst he
  refine ⟨(env.mod.nolimit.keeps kept).keeps x.toInCall.keep, codeAny_func ?_⟩
  obtain ⟨t, ht, hq⟩ := hbody cdv A outer s H vs Q E p (room.deeper _) hsp
  refine wpAny_mono (ht.nox.run [] s1 (start N vs) H _
    (inv_startH S pin env hl rel x) hq) ?_ (fun _ _ z => z)
  intro fl s' hs
  cases fl with
  | ret u =>
    obtain ⟨v, σ', H', J, rv, q⟩ := hs
    exact ⟨v, H', J.os, J.bare, J.base, J.hok, rv, q⟩
  | next =>
    obtain ⟨σ', H', J, q⟩ := hs
    exact ⟨V.non, H', J.os, J.bare, J.base, J.hok, rfl, q⟩
  | brk => exact hs.elim fun _ z => z.elim fun _ z => z.2.elim
  | cont => exact hs.elim fun _ z => z.elim fun _ z => z.2.elim
end
section
variable {X : Cx} {k : Nat} {f : Addr} {fd : FuncData} {ps : List Str} {sp : Addr × Obj → Sp} {E : XK} {x : Str} {q pos : Pos} {e : Expr} {es : List Expr} {t : TA} {p : Addr × Obj}
/-- f(e, ..) of such a def, in the suite where p is handled -/
theorem pe_callP (F : FnP X.prog X.w X.K X.mg X.base CX0 k f fd ps sp) (hr : RoomH k X.A) (hp : p ∈ X.pn) (hg : Gl X x) (hm : X.mg x = some (.ref f)) (hk : PySem.W.keepIn X.K (.ref f) = true) (hb : Binds X.K fd ps [])
    (ha : PA X (e :: es) t) (hdb : (x == ("__debug__" : Str)) = false := by decide) (he : starEach (e :: es) X.env = (false, eval e X.env) :: starEach es X.env := by rfl) (hpl : (backTo pos (starEach es X.env)).any (·.1) = false := by rfl) :
    PE X (.Call (.Name x q) (e :: es) [] pos) (tCall (sp p) [] E t) := by
  constructor
  intro pins s σ H Q I h
  refine wpAny_Call_Name_kw (ld_glob I hg hm ?_ hdb)
  refine PySem.W.callWith_K (h₀ := X.base) I.ok.mod.kin hk (thn (ha.run pos pins s σ H _ I h) ?_) he hpl
  rintro us s1 ⟨vs, H1, I1, r, q⟩
  refine ⟨I1.kIn, ?_⟩
  have q' : sp p vs H1 Q E := by rwa [List.append_nil] at q
  have hl : us.length = ps.length := r.length.symm.trans (F.arity _ _ _ _ _ q')
  have b := hb s1 us I1.kIn (by rw [List.append_nil]; exact hl)
  rw [List.append_nil] at b
  have P1 := I1.pin p (List.mem_append_left _ hp)
  have pin : PinOk X.stack H1 s1 p := ⟨P1.1, P1.2.1, fun hm => (List.mem_cons.mp (I1.stkSub p.1 hm)).elim P1.2.2.1 P1.2.2.2.1, P1.2.2.2.2⟩
  refine wpAny_call (codeAny_mono (F.goes X.A X.stack s1 H1 ⟨us, []⟩ us vs Q E p hr pin I1.env0 b r q') ?_)
  intro r s' hq
  match r, hq with
  | .error er, hq => exact hq.elim
  | .ok (.ret u), hq => exact I1.after hq
  | .ok .next, hq => exact False.elim hq
  | .ok .brk, hq => exact False.elim hq
  | .ok .cont, hq => exact False.elim hq
/-- p is an exception of the class at C, its attributes fs -/
def PinAt (p : Addr × Obj) (H : Hp) (C : Addr) (fs : List (Str × V)) : Prop := p.2.cls = .ref C ∧ (∃ vs, p.2.data = .fields vs) ∧ ((p.2.dict = none ∧ fs = []) ∨ ∃ d, p.2.dict = some d ∧ (H d = some (exd d fs) ∨ H d = some (.xd fs)))
theorem PinAt.ext {H H' : Hp} {C : Addr} {fs : List (Str × V)} (a : PinAt p H C fs) (e : ∀ b o, H b = some o → H' b = some o) : PinAt p H' C fs :=
  ⟨a.1, a.2.1, a.2.2.imp id fun ⟨d, h1, h2⟩ => ⟨d, h1, h2.imp (e _ _) (e _ _)⟩⟩
theorem PinAt.inst {pins : List (Addr × Obj)} {σ : L2.St} {H : Hp} {s : Shared} {C : Addr} {fs : List (Str × V)} (I : Inv X pins σ H s) (hp : p ∈ X.pn) (a : PinAt p H C fs) :
    ∃ od, PySem.W.InstAt s.heap p.1 p.2 C od ∧ ∀ f v, fs.lookup f = some v → ∃ u o, od = some o ∧ PySem.W.lookIn f o = some (some u) ∧ RelV v u := by
  obtain ⟨h1, ⟨vs, h2⟩, h3⟩ := a
  have ho := (I.pin p (List.mem_append_left _ hp)).1
  have nc : PySem.W.notCls p.2 = true := by
    unfold PySem.W.notCls
    rw [h2]
  rcases h3 with ⟨d0, rfl⟩ | ⟨d, hd, hx⟩
  · exact ⟨none, ⟨ho, h1, nc, by rw [d0]; trivial⟩, fun f v q => nomatch q⟩
  · obtain ⟨mA, hn, rel⟩ : ∃ mA, s.heap.Ns1 d mA ∧ ∀ f, RelO (fs.lookup f) (mA f) := by
      rcases hx with hx | hx
      · exact exd_at I.hok hx
      · exact (show ObjOk X.prog X.w H s.heap d (.xd fs) from I.hok d _ hx)
    obtain ⟨od, hod, hl⟩ := lookIn_ns hn
    refine ⟨some od, ⟨ho, h1, nc, by rw [hd]; exact hod⟩, fun f v q => ?_⟩
    have r := rel f
    rw [q] at r
    obtain ⟨u, hu, ru⟩ := RelO.some_of r
    exact ⟨u, od, rfl, by rw [hl, hu], ru⟩
/-- isinstance(e, D), e the exception that is handled -/
def rIsP (K : PySem.W.Frag) (p : Addr × Obj) : List V → Hp → VK → Prop := fun xs H Q => ∃ (C : Addr) (fs : List (Str × V)) (c : V) (u : Value) (b : Bool),
  xs = [.ref p.1, c] ∧ ClsV c u ∧ XC K C ∧ PinAt p H C fs ∧ PySem.W.kitOne K (.ref C) u = some b ∧ Q (.bl b) H
theorem call_isP (A : XAll X.K) (hp : p ∈ X.pn) : CallR X (.builtin "isinstance") (rIsP X.K p) := by
  rintro pins s σ H xs us Q I r ⟨C, fs, c, u, b, rfl, k, T, x, e, q⟩
  obtain ⟨u1, u2, rfl, r1, r2⟩ := vals2 r
  obtain rfl := k.eq r2
  obtain rfl : u1 = Value.ref p.1 := r1
  obtain ⟨od, J, _⟩ := x.inst I hp
  exact PySem.W.kia_one (PySem.W.kitx_exc T.cl T.ga T.gg T.ex T.ca A.gs A.tk T.mo) I.kIn J e (fun z => nomatch z)
    fun tk => ⟨.bl b, H, I.tok tk, rfl, q⟩
/-- e.f, e the exception that is handled -/
def tAttP (K : PySem.W.Frag) (p : Addr × Obj) (f : Str) (te : TE) : TE := fun σ H Q => te σ H fun x H1 => ∃ (C : Addr) (fs : List (Str × V)) (v : V),
  x = .ref p.1 ∧ XC K C ∧ PinAt p H1 C fs ∧ PySem.W.findIn K (.ref C) f = some none ∧ fs.lookup f = some v ∧ Q v H1
theorem pe_attP {te : TE} {f : Str} (he : PE X e te) (hp : p ∈ X.pn)
    (hb : attributeBase e f X.env (eval e X.env) = eval e X.env := by rfl) : PE X (.Attribute e f pos) (tAttP X.K p f te) := by
  constructor
  intro pins s σ H Q I h
  refine attr_of hb (thn (he.run pins s σ H _ I h) ?_)
  rintro u s1 ⟨x, H1, I1, rx, C, fs, v, rfl, T, at_, no, l, q⟩
  obtain rfl : u = Value.ref p.1 := rx
  obtain ⟨od, J, look⟩ := at_.inst I1 hp
  obtain ⟨u, o, rfl, hu, ru⟩ := look f v l
  exact HandSPX.exc_get I1.kIn J T.ga T.gg T.ex (PySem.W.findObj_own T.hd no rfl hu) (handed_of ru) ⟨v, H1, I1.tok _, ru, q⟩
end
end PW
/-! R3: the same where what is raised has no context (so that a suite may raise in turn) -/
namespace PW
open PySem PySem.Spec PyProof.Rows L2
theorem pmkN_exo {X : Cx} {e : Expr} {te : TE} (hx : X.ex = []) (he : PE X e te) :
    L2N.PMk X e (fun σ H Q => te σ H fun x H1 => ∃ a C d, x = .ref a ∧ H1 a = some (exo a C d) ∧ Fr0 X.H_0 a ∧ Raises X (.ref C) ∧ Q (.ref C) d (delH H1 a)) := by
  intro pins s σ H Q I h
  refine wpAny_mono (he.run pins s σ H _ I h) (fun u s1 hu => ?_) fun _ _ x => x
  obtain ⟨v, H1, I1, r1, a, C, d, rfl, ha, h0, hr, q⟩ := hu
  cases r1
  obtain ⟨t1, ho⟩ := exo_at I1.hok ha
  obtain ⟨G, gs, ga, J⟩ := I1.untrack ha h0 hx
  exact ⟨a, _, _, { s1 with heap := G }, delH H1 a, .ref C, d, rfl, J, gs, ga, ho, ⟨rfl, rfl, fun vs e => by cases e; rfl⟩, rfl, rfl, delH_same, rfl, I1.bare, hr, q⟩
theorem cxUpN {P : Program} {w : World} : StX.CXUp (L2N.CX P w) := by
  rintro outer s H s2 H2 E e s' un kp ho ⟨a, B, H', cls, d, ea, fl, hok, ub, na, os, ag, he⟩
  have up : ∀ b o, s.heap.get? b = some o → H b = none → H2 b = none := fun b o q n => un.free b o q n (by simp)
  exact ⟨a, B, H', cls, d, ea, fl, hok,
    { keep := fun b o q n hb => ub.keep b o (kp b o q) (up b o q n) hb
      slot := fun b o q hb => ub.slot b o (kp b o q) hb
      free := fun b o q n => ub.free b o (kp b o q) (up b o q n)
      there := fun b o q hb => ub.there b o (kp b o q) hb
      tups := fun b xs q => ub.tups b xs (un.tups b xs q)
      frzs := fun b o xs q => ub.frzs b o xs (un.frzs b o xs q)
      tbls := fun b ps q => by
        obtain ⟨m1, e1⟩ := un.tbls b ps q
        obtain ⟨m2, e2⟩ := ub.tbls b _ e1
        exact ⟨m1 ++ m2, e2.trans (congrArg (fun z => some (HO.tbl z)) (Array.append_assoc ..))⟩ }, na, os.trans ho, ag, he⟩
end PW
/-! R4: None among own instances: in, index; a promise that raises nothing -/
namespace PW
open PySem PySem.Spec PyProof.Rows L2 Evl
theorem noneOr_ext {K : PySem.W.Frag} {H H' : Hp} {z : V} (h : NoneOr K H z) (e : Ex H H') : NoneOr K H' z := by
  rcases h with h | ⟨a, C, dx, fs, h1, h2, h3, h4⟩
  · exact .inl h
  · exact .inr ⟨a, C, dx, fs, h1, e _ _ h2, h3, h4⟩
section
variable {X : Cx}
def rIndexN (K : PySem.W.Frag) : V → List V → Hp → VK → Prop := fun x xs H Q => ∃ (a : Addr) (ys : List V) (j : Nat), x = V.ref a ∧ xs = [.non] ∧ SqL K H a ys ∧ (∀ z ∈ ys, NoneOr K H z) ∧ ys[j]? = some .non ∧
  (∀ (m : Nat) (z' : V), m < j → ys[m]? = some z' → isNon z' = false) ∧ Q (.int (j : Nat)) H
theorem mt_indexN (hu : X.A.units + 64 < cLine) : MtR X "list.index" (rIndexN X.K) := by
  intro pins s σ H x xs v us Q I rx rxs h
  obtain ⟨a, ys, j, rfl, rfl, hs, fys, hz, hno, q⟩ := h
  cases rx
  cases rxs with
  | cons ry rt =>
    rename_i uy ut
    cases rt
    cases ry
    obtain ⟨its, rv, ⟨⟨cls, dd, data, sl⟩, n, ho, hc, hdn, hd⟩, hlen⟩ := I.list hs
    simp only at hc hd
    subst hc hd
    obtain ⟨u, hu2, ru⟩ := rv.get hz
    cases ru
    obtain ⟨hjl, hje⟩ := List.getElem?_eq_some_iff.mp hu2
    have hvl := rv.length
    have hj : j < its.toArray.size := by simpa using hjl
    have hsl := sizeLine_eq
    refine call_meets PySem.F.slot_list_index ⟨_, ho, rfl⟩ PySem.F.entry_list_index (PySem.F.args_list_index_2 _ _)
      (SeqAt.list_indexAt a its.toArray n dd sl .none PySem.Numpy.isNone j hj (by omega) ?_ ?_) ⟨ho, fun u' hu' => mem_non I ?_ rv fys u' (by simpa using hu'), ?_⟩
    · have e1 : its.toArray[j] = Value.none := by simpa using hje
      rw [e1]
      rfl
    · intro m hm hmj
      have hml : m < its.length := by simpa using hm
      have hmy : m < ys.length := by omega
      have hy' : ys[m]? = some ys[m] := List.getElem?_eq_getElem hmy
      obtain ⟨u2, hu3, ru2⟩ := rv.get hy'
      obtain ⟨_, hme⟩ := List.getElem?_eq_some_iff.mp hu3
      have e1 : its.toArray[m] = u2 := by simpa using hme
      rw [e1, isNone_of ru2 (fys _ (List.mem_of_getElem? hy'))]
      exact hno m _ hmj hy'
    · show X.A.units + _ < cLine
      omega
    · exact ⟨.int (j : Nat), H, I.tok _, ⟨_, rfl⟩, q⟩
end
section
variable {K : PySem.W.Frag} {σ : L2.St} {H : Hp} {ta tb : TE} {xs : List V}
theorem ev_noneIn {p : Addr} (ha : Ev ta σ H .non) (hb : Ev tb σ H (.ref p)) (hp : SqL K H p xs) (hn : ∀ z ∈ xs, NoneOr K H z) : Ev (tOp (rNoneIn K false) ta tb) σ H (.bl (xs.any isNon)) :=
  ev_op ha hb fun H1 e1 Q q => ⟨p, xs, rfl, rfl, ex_l e1 hp, fun z hz => noneOr_ext (hn z hz) e1, q H1 (Ex.refl H1)⟩
theorem ev_indexN {l : Addr} {j : Nat} (ha : Ev ta σ H (.ref l)) (hl : SqL K H l xs) (hb : Ev tb σ H .non) (hn : ∀ z ∈ xs, NoneOr K H z) (hz : xs[j]? = some .non)
    (hno : ∀ (m : Nat) (z' : V), m < j → xs[m]? = some z' → isNon z' = false) :
    Ev (tBM K "list" (rIndexN K) ta (tCons tb tNil)) σ H (.int (j : Nat)) := fun H1 e Q q =>
  ha H1 e _ fun H2 e2 => ⟨.inl ⟨rfl, _, ex_l (e.trans e2) hl⟩, hb H2 (e.trans e2) _ fun H3 e3 =>
    ⟨l, xs, j, rfl, rfl, ex_l ((e.trans e2).trans e3) hl, fun z hz => noneOr_ext (hn z hz) ((e.trans e2).trans e3), hz, hno, q H3 (e2.trans e3)⟩⟩
end
section
variable {P : Program} {w : World} {K : PySem.W.Frag} {mg : Str → Option Value} {base : Heap} {k : Nat} {f : Addr} {sp sp0 : Sp}
/-- what raises only as E says raises nothing where E is false -/
theorem crN0 {outer : List Env} {H : Hp} {s : Shared} {Q : VK} {E : XK} {r : Result} {s' : Shared} (h : CR (L2N.CX P w) outer P w H s Q E0 r s') : CR CX0 outer P w H s Q E r s' := by
  match r, h with
  | .error e, ⟨_, _, _, _, _, _, _, _, _, _, _, _, z⟩ => exact z.elim
  | .ok (.ret u), h => exact h
  | .ok .next, h => exact h
  | .ok .brk, h => exact h
  | .ok .cont, h => exact h
theorem crX0 {outer : List Env} {H : Hp} {s : Shared} {Q : VK} {E : XK} {r : Result} {s' : Shared} (h : CR (L2.CX P w) outer P w H s Q E0 r s') : CR CX0 outer P w H s Q E r s' := by
  match r, h with
  | .error e, ⟨_, _, _, _, _, _, _, _, _, _, _, _, z⟩ => exact z.elim
  | .ok (.ret u), h => exact h
  | .ok .next, h => exact h
  | .ok .brk, h => exact h
  | .ok .cont, h => exact h
theorem noN_R (F : FnR P w K mg base (L2N.CX P w) k f sp) (i : ∀ vs H Q E, sp0 vs H Q E → sp vs H Q E0) : FnR P w K mg base CX0 k f sp0 := fun A outer s H us vs Q E hr e0 r h =>
  codeAny_mono (F A outer s H us vs Q E0 hr e0 r (i _ _ _ _ h)) fun _ _ z => crN0 z
theorem noX_Ok {fd : FuncData} {ps : List Str} (F : FnOk P w K mg base (L2.CX P w) k f fd ps sp) (i : ∀ vs H Q E, sp0 vs H Q E → sp vs H Q E0) : FnOk P w K mg base CX0 k f fd ps sp0 :=
  ⟨fun vs H Q E h => F.len vs H Q E0 (i _ _ _ _ h), fun A outer s H args us vs Q E hr e0 hb r h => codeAny_mono (F.run A outer s H args us vs Q E0 hr e0 hb r (i _ _ _ _ h)) fun _ _ z => crX0 z⟩
end
end PW
/-! P1: tuples turned round, repeated any number of times; what they evaluate to -/
namespace HT
open PySem PySem.Spec PyProof.Rows
section
variable {prog : Program} {w : World} {A : Around} {E : Value → Shared → Prop} {s : Shared}
theorem adjust_rev (n : Nat) : Builtin.Slice.sliceAdjust none none (-1) (n : Int) = ((n : Int) - 1, -1) := by
  unfold Builtin.Slice.sliceAdjust
  simp
theorem places_rev (n : Nat) : Builtin.Slice.slicePlaces ((n : Int) - 1) (-1) (-1) = n := by
  unfold Builtin.Slice.slicePlaces
  simp
  by_cases h : n = 0
  · subst h
    simp
  · rw [if_pos (by omega)]
    omega
theorem sliceApplied_rev {sl : Addr} {n : Nat} {t : Tok} {Q : Int × Int × Nat → Shared → Prop} (hs : s.heap.IsSliceOf sl .none .none (.int (-1) t))
    (h : Q ((n : Int) - 1, -1, n) s) : wpAny (model prog w) A (Builtin.Slice.sliceApplied (.ref sl) (pure (n : Int))) Q E s := by
  obtain ⟨os, hos, hcs, hds⟩ := id hs
  unfold Builtin.Slice.sliceApplied Builtin.Slice.sliceFields
  refine wpAny_bind (wpAny_bind (wpAny_field hos hds (x := .none) rfl (wpAny_bind (wpAny_field hos hds (x := .none) rfl (wpAny_bind (wpAny_field hos hds (x := .int (-1) t) rfl (wpAny_pure ?_)))))))
  refine wpAny_bind (slicePart_ (.int _ _) ?_)
  show wpAny _ _ (if ((-1 : Int) == 0) = true then _ else _) _ _ s
  rw [if_neg (by decide)]
  refine wpAny_bind (slicePart_ .none (wpAny_bind (slicePart_ .none (wpAny_bind (wpAny_pure ?_)))))
  show wpAny _ _ (match Builtin.Slice.sliceAdjust none none (-1) (n : Int) with | (lo, hi) => pure (lo, (-1 : Int), Builtin.Slice.slicePlaces lo hi (-1))) _ _ s
  rw [adjust_rev n]
  show wpAny _ _ (pure ((n : Int) - 1, (-1 : Int), Builtin.Slice.slicePlaces ((n : Int) - 1) (-1) (-1))) _ _ s
  rw [places_rev]
  exact wpAny_pure h
theorem pick_rev (xs : Array Value) : ((List.range xs.size).filterMap fun (m : Nat) => xs[(((xs.size : Nat) : Int) - 1 + (m : Int) * (-1)).toNat]?).toArray = xs.toList.reverse.toArray := by
  congr 1
  have e : ∀ k, k ≤ xs.size → (List.range k).filterMap (fun (m : Nat) => xs[(((xs.size : Nat) : Int) - 1 + (m : Int) * (-1)).toNat]?) = xs.toList.reverse.take k := by
    intro k hk
    induction k with
    | zero => simp
    | succ k ih =>
      have hi : (((xs.size : Nat) : Int) - 1 + (k : Int) * (-1)).toNat = xs.size - 1 - k := by omega
      have hlt : xs.size - 1 - k < xs.size := by omega
      rw [List.range_succ, List.filterMap_append, ih (by omega)]
      have hr : xs.toList.reverse[k]? = some xs[xs.size - 1 - k] := by
        rw [List.getElem?_reverse (by simpa using by omega)]
        simp [hlt]
      rw [List.take_add_one, hr]
      simp only [List.filterMap_cons, List.filterMap_nil, hi, Array.getElem?_eq_getElem hlt]
      rfl
  have q := e xs.size (Nat.le_refl _)
  rw [q, List.take_of_length_le (by simp)]
theorem getItem_tuple_rev {t sl : Addr} {items : Array Value} {tk : Tok} {Q : Value → Shared → Prop} (ht : IsTup s.heap t items) (hs : s.heap.IsSliceOf sl .none .none (.int (-1) tk))
    (h : Q (.ref s.heap.objs.size) { s with heap := s.heap.push { cls := .type "tuple", data := .seq items.toList.reverse.toArray } })
    (hsz : items.size ≤ sizeLine) : wpAny (model prog w) A (getItem (.ref t) (.ref sl)) Q E s := by
  have htake : sizeOk (.seq items.toList.reverse.toArray) := by
    show items.toList.reverse.toArray.size ≤ sizeLine
    rw [List.size_toArray, List.length_reverse, Array.length_toList]
    exact hsz
  obtain ⟨os, hos, hcs, hds⟩ := id hs
  have hTs : s.TypeIs (.ref sl) "slice" := ⟨os, hos, hcs⟩
  unfold getItem
  try with_reducible refine wpAny_holding ?_
  first | refine wpAny_bind (wpAny_pure ?_) | skip
  refine wpAny_bind (wpAny_sequenceKey ht.typeIs (by decide) ?_)
  refine wpAny_bind (wpAny_callSpecial?_slot (name := Str.ofString "__getitem__") ht.typeIs PyProof.Rows.slot_tuple_getitem
    (wpAny_call_entry PyProof.Rows.slot_tuple_getitem ht.typeIs entry_tuple_getitem ?_ (args_tuple_getitem _ _)))
  show wpAny _ _ (Builtin.Tuple.tupleItemsOf (.ref t) >>= _) _ _ s
  refine wpAny_bind (tupleItemsOf_ ht ?_)
  refine wpAny_bind (wpAny_typeOf hTs ?_)
  rw [if_pos (by decide)]
  refine wpAny_bind (sliceApplied_rev hs ?_)
  have hno : ¬ (((((items.size : Nat) : Int) - 1) == 0 && (-1 : Int) == 1 && items.size == items.size) = true) := by
    rw [show ((-1 : Int) == 1) = false from rfl, Bool.and_false, Bool.false_and]
    decide
  show wpAny _ _ (if ((((items.size : Nat) : Int) - 1) == 0 && (-1 : Int) == 1 && items.size == items.size) = true then _ else _) _ _ s
  rw [if_neg hno, pick_rev]
  first
    | exact wpAny_bind (m := Builtin.Tuple.tupleExact _) (wpAny_newObj_type (wpAny_pure ⟨_, rfl, wpAny_pure h⟩) htake)
    | exact wpAny_bind (m := Builtin.Tuple.tupleExact _) (wpAny_newObj_type (wpAny_bind (wpAny_pure (wpAny_pure ⟨_, rfl, wpAny_pure h⟩))) htake)
    | exact wpAny_bind (wpAny_bind (m := Builtin.Tuple.tupleExact _) (wpAny_newObj_type (wpAny_pure (wpAny_pure ⟨_, rfl, wpAny_pure h⟩)) htake))
    | exact wpAny_bind (wpAny_bind (m := Builtin.Tuple.tupleExact _) (wpAny_newObj_type (wpAny_pure ⟨_, rfl, wpAny_pure h⟩) htake))
end
end HT
namespace PW
open PySem PySem.Spec PyProof.Rows L2 Evl
section
variable {X : Cx}
def tRevT (K : PySem.W.Frag) (te : TE) : TE := fun σ H Q => te σ H fun x H1 => ∃ a xs, x = .ref a ∧ SqT K H1 a xs ∧ ∀ p, H1 p = none → Q (.ref p) (upd H1 p (.tup xs.reverse))
theorem pe_revT {e : Expr} {te : TE} {k : Nat} {p1 p2 p3 pos : Pos} (he : PE X e te) : PE X (.Subscript e (.Slice none none (some (.UnaryOp .USub (.Constant (.int 1) k p1) p2)) p3) pos) (tRevT X.K te) := by
  refine ⟨fun pins s σ H Q I h => ?_⟩
  refine Subscript_ (thn (he.run pins s σ H _ I h) fun v s1 ⟨x, H1, I1, r1, q1⟩ => ?_)
  obtain ⟨a, xs, ex, hx, q⟩ := q1
  subst ex
  cases r1
  have hst : PO X (some (.UnaryOp .USub (.Constant (.int 1) k p1) p2)) (tPart (tUn (rU fun i => .int (-i)) (tC (.int 1)))) := po_some (pe_un un_neg pe_int)
  refine wpAny_Slice (thn (po_none.run pins s1 σ H1 (fun o H2 => o = none ∧ H2 = H1) I1 ⟨rfl, rfl⟩) fun vl s2 ⟨l, H2, I2, pl, el, e2⟩ => ?_)
  subst el e2
  refine thn (po_none.run pins s2 σ H2 (fun o H3 => o = none ∧ H3 = H2) I2 ⟨rfl, rfl⟩) fun vu s3 ⟨u, H3, I3, pu, eu, e3⟩ => ?_
  subst eu e3
  refine thn (hst.run pins s3 σ H3 (fun o H4 => o = some (-1) ∧ H4 = H3) I3 ⟨1, rfl, -1, rfl, rfl, rfl⟩) fun vs s4 ⟨o, H4, I4, ps, eo, e4⟩ => ?_
  subst eo e4
  have I5 : Inv X pins σ H4 { s4 with heap := s4.heap.push { cls := .type "slice", data := .fields #[vl, vu, vs] } } := I4.kept (t' := s4.toks) fun b ob q => Heap.get?_push_of_some _ q
  obtain ⟨its, r, ht, hz⟩ := I5.tuple hx
  have hlen := r.length
  cases pl
  cases pu
  cases ps
  show wpAny (model X.prog X.w) X.A (subscriptTail e (.Slice none none (some (.UnaryOp .USub (.Constant (.int 1) k p1) p2)) p3) (.ref a) (.ref s4.heap.objs.size)) (EP X pins σ Q) X.xe { s4 with heap := s4.heap.push { cls := .type "slice", data := .fields #[.none, .none, .int (-1) _] } }
  refine tail_any (ops := [.ref a, .ref s4.heap.objs.size]) ht.typeIs (PyProof.Rows.slot_tuple_getitem.lookup) ?_ (by with_unfolding_all rfl)
  refine HT.getItem_tuple_rev ht (Heap.IsSliceOf.new _ _ _ _) ?_ (by rw [List.size_toArray]; omega)
  refine ⟨.ref _, _, I5.laid (t' := s4.toks) (o := .tup xs.reverse) (fun b ob q => Heap.get?_push_of_some _ q) (Nat.le_refl _) ?_, rfl, q _ (I5.hok.fresh (Nat.le_refl _))⟩
  exact ⟨by rw [List.length_reverse]; exact hz, _, r.reverse, IsTup.new _ _⟩
end
end PW
namespace L2
open PySem PySem.Spec PyProof.Rows
theorem tuple_mul1 (l : Addr) (items : Array Value) (n : Nat) (dd : Option Addr) (sl : Array (Option Value)) (u : Tok) :
    Meets (Builtin.«tuple.__mul__» ⟨[.ref l, .int 1 u], []⟩) (fun _ R s => s.heap.get? l = some { cls := .type "tuple", dict := dd, data := .seq items n, slots := sl } ∧ R (.ok (.ret (Value.ref l))) s) :=
  .of_wp fun prog w A R s h => by
    obtain ⟨hp, g, d, tk, os⟩ := s
    obtain ⟨hl, h⟩ := h
    have f1 := AutoSeq1.idx_int
    wp_walk using wpAny_loadPart' hl
    exact ⟨_, rfl, h⟩
theorem tuple_mul0 (l : Addr) (items : Array Value) (n : Nat) (dd : Option Addr) (sl : Array (Option Value)) (u : Tok) (hn : items.isEmpty = false) :
    Meets (Builtin.«tuple.__mul__» ⟨[.ref l, .int 0 u], []⟩) (fun _ R s => s.heap.get? l = some { cls := .type "tuple", dict := dd, data := .seq items n, slots := sl } ∧
      R (.ok (.ret (Value.ref s.heap.objs.size))) { s with heap := s.heap.push { cls := Value.type "tuple", data := Data.seq #[] }, toks := s.toks }) :=
  .of_wp fun prog w A R s h => by
    obtain ⟨hp, g, d, tk, os⟩ := s
    obtain ⟨hl, h⟩ := h
    have f1 := AutoSeq1.idx_int
    wp_walk using wpAny_loadPart' hl
    exact ⟨_, rfl, h⟩
def rRepU (K : PySem.W.Frag) : R2 := fun x y H Q => ∃ l k xs, x = .ref l ∧ y = .int k ∧ SqT K H l xs ∧ xs ≠ [] ∧ 0 ≤ k ∧ k ≤ 1000 ∧ xs.length ≤ 1000 ∧
  (k = 1 → Q (.ref l) H) ∧ (k ≠ 1 → ∀ p, H p = none → Q (.ref p) (upd H p (.tup (List.replicate k.toNat xs).flatten)))
section
variable {X : Cx}
theorem op_repU : OpR X (binaryOp .Mult) (rRepU X.K) := by
  intro pins s σ H x y v u Q I rx ry h
  obtain ⟨l, k, xs, rfl, rfl, hT, hne, h0, h2, hz, q1, q2⟩ := h
  by_cases k2 : 2 ≤ k
  · exact op_repT pins s σ H _ _ v u Q I rx ry ⟨l, k, xs, rfl, rfl, hT, hne, k2, h2, hz, q2 (by omega)⟩
  cases rx
  obtain ⟨t, rfl⟩ := ry
  obtain ⟨its, r, ⟨⟨cls, dd, data, sl⟩, ho, hc, n, hd⟩, hs⟩ := I.tuple hT
  simp only at hc hd
  subst hc hd
  have hle : its.length = xs.length := r.length.symm
  have hn : its ≠ [] := fun e => hne (by
    rw [e] at hle
    exact List.eq_nil_of_length_eq_zero hle.symm)
  have hi : its.toArray.isEmpty = false := by
    cases its with
    | nil => exact absurd rfl hn
    | cons a b => rfl
  have hk : k = 0 ∨ k = 1 := by omega
  rcases hk with rfl | rfl
  · refine wpAny_binaryOp_repeat_ref (T := "tuple") (U := "int") (by decide) ⟨_, ho, rfl⟩ (fun s' => typeIs_int s' 0 t) noFill_tuple_mul F.fills_int_mul F.slot_int_rmul repeat_tuple F.slot_int_index.lookup
      (call_meets F.slot_int_rmul (typeIs_int s 0 t) F.entry_int_rmul (F.args_int_rmul_2 _ _) (int_rmul_tuple 0 t l its.toArray n dd sl)
        ⟨ho, rfl, ⟨_, ho, rfl⟩, call_meets F.slot_tuple_mul ⟨_, ho, rfl⟩ F.entry_tuple_mul (F.args_tuple_mul_2 _ _) (tuple_mul0 l its.toArray n dd sl t hi) ⟨ho, ?_⟩⟩)
    exact ⟨.ref s.heap.objs.size, _, I.laid (t' := s.toks) (o := .tup []) (fun b ob q => Heap.get?_push_of_some _ q) (Nat.le_refl _) ⟨Nat.zero_le _, [], .nil, IsTup.new _ _⟩, rfl, q2 (by decide) _ (I.hok.fresh (Nat.le_refl _))⟩
  · refine wpAny_binaryOp_repeat_ref (T := "tuple") (U := "int") (by decide) ⟨_, ho, rfl⟩ (fun s' => typeIs_int s' 1 t) noFill_tuple_mul F.fills_int_mul F.slot_int_rmul repeat_tuple F.slot_int_index.lookup
      (call_meets F.slot_int_rmul (typeIs_int s 1 t) F.entry_int_rmul (F.args_int_rmul_2 _ _) (int_rmul_tuple 1 t l its.toArray n dd sl)
        ⟨ho, rfl, ⟨_, ho, rfl⟩, call_meets F.slot_tuple_mul ⟨_, ho, rfl⟩ F.entry_tuple_mul (F.args_tuple_mul_2 _ _) (tuple_mul1 l its.toArray n dd sl t) ⟨ho, ?_⟩⟩)
    exact ⟨.ref l, H, I, rfl, q1 rfl⟩
end
end L2
namespace PW
open PySem PySem.Spec PyProof.Rows L2 Evl
/-- a tuple, new or not -/
def EvQ (te : TE) (σ : L2.St) (H : Hp) (xs : List V) : Prop := EvR te σ H (fun H' v => ∃ p, v = .ref p ∧ Rd H' p (.tup xs))
section
variable {K : PySem.W.Frag} {σ : L2.St} {H : Hp} {ta tb te : TE} {xs ys : List V} {x : V}
theorem eq_of {p : Addr} (h : Ev te σ H (.ref p)) (s : Rd H p (.tup xs)) : EvQ te σ H xs := er_of h fun H1 e => ⟨p, rfl, ex_rd e s⟩
theorem eq_is (h : EvQ te σ H xs) (e : xs = ys) : EvQ te σ H ys := e ▸ h
theorem eq_tup {t : TA} (h : EvA t σ H xs) (hz : xs.length ≤ 100000) : EvQ (tTup t) σ H xs := fun H1 e Q q => eu_tup h hz H1 e Q fun p H2 n e2 h2 => q (.ref p) H2 e2 ⟨p, rfl, .inl h2⟩
theorem eq_cat (ha : EvQ ta σ H xs) (hb : EvQ tb σ H ys) (hz : xs.length + ys.length ≤ 100000) : EvQ (tOp (rCatA K) ta tb) σ H (xs ++ ys) := fun H1 e Q q =>
  ha H1 e _ fun v H2 e2 ⟨a, ev, sa⟩ => hb H2 (e.trans e2) _ fun u H3 e3 ⟨b, eu, sb⟩ => by
    subst ev eu
    refine ⟨a, b, xs, ys, rfl, rfl, .inl (ex_rd e3 sa), .inl sb, sz_of hz, fun z => ?_, fun z1 z2 => ?_, fun z1 z2 p hp => ?_⟩
    · subst z
      exact q _ _ (e2.trans e3) ⟨b, rfl, sb⟩
    · subst z2
      rw [List.append_nil] at q
      exact q _ _ (e2.trans e3) ⟨a, rfl, ex_rd e3 sa⟩
    · exact q _ _ ((e2.trans e3).trans (Ex.new hp)) ⟨p, rfl, .inl upd_same⟩
theorem eq_rev (ha : EvQ ta σ H xs) : EvQ (tRevT K ta) σ H xs.reverse := fun H1 e Q q =>
  ha H1 e _ fun v H2 e2 ⟨a, ev, sa⟩ => ⟨a, xs, ev, .inl sa, fun p hp => q _ _ (e2.trans (Ex.new hp)) ⟨p, rfl, .inl upd_same⟩⟩
theorem eq_slice {tl tu : TO} {lo hi : Option Int} (ha : EvQ ta σ H xs) (hl : EvO tl σ H lo) (hu : EvO tu σ H hi) : EvQ (tSl (rSlA K) ta tl tu) σ H (cutV xs lo hi) := fun H1 e Q q =>
  ha H1 e _ fun v H2 e2 ⟨a, ev, sa⟩ => hl H2 (e.trans e2) _ fun H3 e3 => hu H3 ((e.trans e2).trans e3) _ fun H4 e4 => by
    subst ev
    refine ⟨a, xs, rfl, .inl (ex_rd (e3.trans e4) sa), fun z => ?_, fun z p hp => ?_⟩
    · have whole : cutV xs lo hi = xs := by
        unfold cutV
        rw [z.1, z.2, Nat.sub_zero, List.drop_zero, List.take_of_length_le (Nat.le_refl _)]
      rw [whole] at q
      exact q _ _ ((e2.trans e3).trans e4) ⟨a, rfl, ex_rd (e3.trans e4) sa⟩
    · exact q _ _ (((e2.trans e3).trans e4).trans (Ex.new hp)) ⟨p, rfl, .inl upd_same⟩
theorem eq_rep {k : Int} (ha : EvQ ta σ H xs) (hb : Ev tb σ H (.int k)) (hne : xs ≠ []) (k0 : 0 ≤ k) (k1 : k ≤ 1000) (hz : xs.length ≤ 1000) : EvQ (tOp (rRepU K) ta tb) σ H (List.replicate k.toNat xs).flatten := fun H1 e Q q =>
  ha H1 e _ fun v H2 e2 ⟨a, ev, sa⟩ => hb H2 (e.trans e2) _ fun H3 e3 => by
    subst ev
    refine ⟨a, k, xs, rfl, rfl, .inl (ex_rd e3 sa), hne, k0, k1, hz, fun z => ?_, fun z p hp => q _ _ ((e2.trans e3).trans (Ex.new hp)) ⟨p, rfl, .inl upd_same⟩⟩
    subst z
    have e1 : (List.replicate (1 : Int).toNat xs).flatten = xs := by simp
    rw [e1] at q
    exact q _ _ (e2.trans e3) ⟨a, rfl, ex_rd e3 sa⟩
/-- t[i] -/
theorem ev_ixQ {i : Int} {v : V} (ha : EvQ ta σ H xs) (hb : Ev tb σ H (.int i)) (hi : atI xs i = some v) : Ev (tOp (rIxT K) ta tb) σ H v := fun H1 e Q q =>
  ha H1 e _ fun u H2 e2 ⟨a, ev, sa⟩ => hb H2 (e.trans e2) _ fun H3 e3 => by
    subst ev
    exact ⟨a, xs, i, v, rfl, rfl, .inl (ex_rd e3 sa), hi, q H3 (e2.trans e3)⟩
theorem ev_lenQ (ha : EvQ ta σ H xs) : Ev (tCB (rLenS K) (tCons ta tNil)) σ H (.int (xs.length : Int)) := fun H1 e Q q =>
  ha H1 e _ fun u H2 e2 ⟨a, ev, sa⟩ => ⟨a, xs, by rw [ev], .inr (.inl sa), q H2 e2⟩
end
theorem cut_from {xs : List V} {d : Int} (h : 0 ≤ d) : cutV xs (some d) none = xs.drop d.toNat := by
  obtain ⟨n, rfl⟩ := Int.eq_ofNat_of_zero_le h
  unfold cutV
  show (xs.drop (HT.sIx xs.length 0 (some ((n : Nat) : Int)))).take (HT.sIx xs.length xs.length none - HT.sIx xs.length 0 (some ((n : Nat) : Int))) = xs.drop n
  rw [HT.sIx_nat, HT.sIx_none]
  by_cases z : n ≤ xs.length
  · rw [Nat.min_eq_left z, List.take_of_length_le (by rw [List.length_drop]; omega)]
  · rw [Nat.min_eq_right (by omega), List.drop_of_length_le (Nat.le_refl _), List.drop_of_length_le (by omega)]
    simp
theorem cut_to {xs : List V} {d : Int} (h : 0 ≤ d) : cutV xs none (some d) = xs.take d.toNat := by
  obtain ⟨n, rfl⟩ := Int.eq_ofNat_of_zero_le h
  unfold cutV
  show (xs.drop (HT.sIx xs.length 0 none)).take (HT.sIx xs.length xs.length (some ((n : Nat) : Int)) - HT.sIx xs.length 0 none) = xs.take n
  rw [HT.sIx_nat, HT.sIx_none, List.drop_zero, Nat.sub_zero]
  by_cases z : n ≤ xs.length
  · rw [Nat.min_eq_left z]
  · rw [Nat.min_eq_right (by omega), List.take_of_length_le (Nat.le_refl _), List.take_of_length_le (by omega)]
end PW
/-! P3: sum of a tuple of numbers; a = b = e; a statement that is never come to; tuples are tuples -/
namespace PW
open PySem PySem.Spec PyProof.Rows PyProof.V L2 Evl
section
variable {X : Cx}
def rSumT (K : PySem.W.Frag) : List V → Hp → VK → Prop := fun vs H Q => ∃ (a : Addr) (ns : List Int), vs = [V.ref a] ∧ SqT K H a (ns.map V.int) ∧ Q (.int ns.sum) H
theorem cr_sumT (hc : X.calm = true) : CallR X (.builtin "sum") (rSumT X.K) := by
  intro pins s σ H vs us Q I r h
  obtain ⟨a, ns, rfl, hs, q⟩ := h
  obtain ⟨its, rv, ht, _⟩ := I.tuple hs
  rw [Vals.ref1 r]
  have hi : IntsAre its ns := rv.ints
  obtain ⟨xs, hx⟩ := hi.allInts.items
  have hn : numsOf its.toArray.toList = ns := by rw [show its.toArray.toList = its from rfl, hi.numsOf]
  rw [hx] at ht hn
  rw [nums_intItems] at hn
  have e9 : preSum (numAt xs) xs.size = ns.sum := by rw [preSum_eq, List.take_of_length_le (by simp), hn]
  refine PySem.W.ktm_sumG (I.ok.hd hc) ht fun h' tk t' hk => ?_
  rw [e9]
  exact ⟨.int _, H, I.kept hk, ⟨_, rfl⟩, q⟩
def tTwo (i j : Nat) (te : TE) : TS := fun D σ H => te σ H fun v H1 => D.nx ((σ.set i (some v)).set j (some v)) H1
theorem ps_two {i j : Nat} {x y : Str} {e : Expr} {te : TE} {p1 p2 pos : Pos} (hN : X.N.Nodup) (hi : X.N[i]? = some x) (hj : X.N[j]? = some y) (hx : Loc X.env.scope x) (hy : Loc X.env.scope y) (he : PE X e te)
    (hfx : X.fn x = true ∨ X.env.scope.names.lookup x = some .local := by first | exact .inl rfl | exact .inr rfl | assumption)
    (hfy : X.fn y = true ∨ X.env.scope.names.lookup y = some .local := by first | exact .inl rfl | exact .inr rfl | assumption)
    (h2 : (assignEach [.Name x p1, .Name y p2] X.env).map (·.2) = [assign (.Name x p1) X.env, assign (.Name y p2) X.env] := by rfl)
    (hw : swappedStores [.Name x p1, .Name y p2] e X.env = pure none := by rfl) : PS X (.Assign [.Name x p1, .Name y p2] e pos) (tTwo i j te) := by
  refine ⟨fun pins s σ H D I h => ?_⟩
  refine wpAny_Assign_two (thn (he.run pins s σ H _ I h) fun v s1 ⟨z, H1, I1, r1, q1⟩ => ?_) h2 hw
  refine wpAny_assign_Name (store_ok I1 hN hi hx r1 (fun s2 I2 => ?_) hfx)
  exact wpAny_assign_Name (store_ok I2 hN hj hy r1 (fun s3 I3 => ⟨_, H1, I3, q1⟩) hfy)
def tNever : TS := fun _ _ _ => False
theorem ps_never {st : Stmt} : PS X st tNever := ⟨fun _ _ _ _ _ _ h => h.elim⟩
theorem ty_tup {K : PySem.W.Frag} {H : Hp} {a : Addr} {xs : List V} (h : Rd H a (.tup xs)) : TyX K H (.ref a) (.type "tuple") := by
  rcases h with h | ⟨o, h⟩
  · exact .base (.tup h)
  · exact .fTuple h
end
end PW
/-! P4: calls by names alone; data compared; lists repeated -/
namespace PW
open PySem PySem.Spec PyProof.Rows L2 Evl
section
variable {X : Cx} {CX : CXT} {k : Nat} {f : Addr} {fd : FuncData} {ps ks : List Str} {sp : Sp} {E : XK} {x : Str} {p pos : Pos} {kws : List Keyword} {tk : TA} {g : List Value → List Value → List Value} {gV : List V → List V → List V}
/-- f(k = v, ..), nothing by position -/
theorem pe_callK0 (F : FnOk X.prog X.w X.K X.mg X.base CX k f fd ps sp) (hr : Room k X.A) (hg : Gl X x) (hm : X.mg x = some (.ref f)) (hk : PySem.W.keepIn X.K (.ref f) = true) (hb : KBinds X.K fd ps ks g gV) (hx : Passes CX X E)
    (hkw : PK X kws tk) (hall : (backToKw pos (keywordEach kws X.env)).all (·.1.isSome) = true := by rfl) (hks : (backToKw pos (keywordEach kws X.env)).filterMap (·.1) = ks := by rfl)
    (hdb : (x == ("__debug__" : Str)) = false := by decide)
    (hpl : ((backTo pos (starEach [] X.env)).any (·.1) || (backToKw pos (keywordEach kws X.env)).any (·.1.isNone)) = false := by rfl) :
    PE X (.Call (.Name x p) [] kws pos) (tCallK sp gV E tNil tk) := by
  refine ⟨fun pins s σ H Q I h => ?_⟩
  refine wpAny_Call_Name_kw (ld_glob I hg hm ?_ hdb)
  refine PySem.W.callWith_KW0 (h₀ := X.base) I.ok.mod.kin hk hall (thn (hkw.run pos pins s σ H _ I h) fun ws s2 ⟨zs, H2, I2, rz, q2⟩ => ⟨I2.kIn, ?_⟩) hpl
  rw [hks]
  exact run_fnk (us := []) (vs := []) F hr hb hx I2 .nil rz q2
end
def g2 : List Value → List Value → List Value
  | [], [c, r] => [r, c]
  | _, _ => []
def g2V : List V → List V → List V
  | [], [c, r] => [r, c]
  | _, _ => []
def g3 : List Value → List Value → List Value
  | [], [c, q, r] => [r, q, c]
  | _, _ => []
def g3V : List V → List V → List V
  | [], [c, q, r] => [r, q, c]
  | _, _ => []
def g4 : List Value → List Value → List Value
  | [], [c, m, q, r] => [r, q, m, c]
  | _, _ => []
def g4V : List V → List V → List V
  | [], [c, m, q, r] => [r, q, m, c]
  | _, _ => []
theorem rel2 {vs : List V} {us : List Value} {zs : List V} {ws : List Value} (a : Vals vs us) (b : Vals zs ws) : Vals (g2V vs zs) (g2 us ws) := by
  cases a with
  | cons _ _ => exact .nil
  | nil => cases b with
    | nil => exact .nil
    | cons c r => cases r with
      | nil => exact .nil
      | cons d r => cases r with
        | nil => exact .cons d (.cons c .nil)
        | cons _ _ => exact .nil
theorem rel3 {vs : List V} {us : List Value} {zs : List V} {ws : List Value} (a : Vals vs us) (b : Vals zs ws) : Vals (g3V vs zs) (g3 us ws) := by
  cases a with
  | cons _ _ => exact .nil
  | nil => cases b with
    | nil => exact .nil
    | cons c r => cases r with
      | nil => exact .nil
      | cons d r => cases r with
        | nil => exact .nil
        | cons e r => cases r with
          | nil => exact .cons e (.cons d (.cons c .nil))
          | cons _ _ => exact .nil
theorem rel4 {vs : List V} {us : List Value} {zs : List V} {ws : List Value} (a : Vals vs us) (b : Vals zs ws) : Vals (g4V vs zs) (g4 us ws) := by
  cases a with
  | cons _ _ => exact .nil
  | nil => cases b with
    | nil => exact .nil
    | cons c r => cases r with
      | nil => exact .nil
      | cons d r => cases r with
        | nil => exact .nil
        | cons e r => cases r with
          | nil => exact .nil
          | cons f r => cases r with
            | nil => exact .cons f (.cons e (.cons d (.cons c .nil)))
            | cons _ _ => exact .nil
end PW
/-! G0: what laws over numbers share, whatever their row: names, springs, draws, data -/
namespace PW
open PySem PySem.Spec PyProof.Rows L2 Evl
/-- the built-in names that nothing of the text shadows -/
structure Blt (mg : Str → Option Value) : Prop where
  len : mg "len" = none
  int : mg "int" = none
  abs : mg "abs" = none
  divmod : mg "divmod" = none
  repr : mg "repr" = none
  isi : mg "isinstance" = none
  all : mg "all" = none
  range : mg "range" = none
  max : mg "max" = none
  min : mg "min" = none
  str : mg "str" = none
  bool : mg "bool" = none
  any : mg "any" = none
  tuple : mg "tuple" = none
  list : mg "list" = none
  sum : mg "sum" = none
theorem bIsi : bootBuiltins "isinstance" = some (.builtin "isinstance") := by decide +kernel
theorem bStr : bootBuiltins "str" = some (.type "str") := by decide +kernel
theorem bInt : bootBuiltins "int" = some (.type "int") := by decide +kernel
theorem bBool : bootBuiltins "bool" = some (.type "bool") := by decide +kernel
theorem bTuple : bootBuiltins "tuple" = some (.type "tuple") := by decide +kernel
theorem bSum : bootBuiltins "sum" = some (.builtin "sum") := by decide +kernel
theorem bMax : bootBuiltins "max" = some (.builtin "max") := by decide +kernel
theorem bMin : bootBuiltins "min" = some (.builtin "min") := by decide +kernel
theorem bAll : bootBuiltins "all" = some (.builtin "all") := by decide +kernel
theorem bRepr : bootBuiltins "repr" = some (.builtin "repr") := by decide +kernel
theorem as_peK {X : Cx} {e : Expr} {t t' : TE} (h : PE X e t) (q : t = t') : PE X e t' := q ▸ h
theorem kit_int {K : PySem.W.Frag} : PySem.W.kitOne K (.type "int") (.type "int") = some true := by
  unfold PySem.W.kitOne
  rw [if_pos (by decide)]
theorem kit_tuple {K : PySem.W.Frag} : PySem.W.kitOne K (.type "tuple") (.type "tuple") = some true := by
  unfold PySem.W.kitOne
  rw [if_pos (by decide)]
section
variable {K : PySem.W.Frag} {σ : L2.St} {H : Hp} {te tb : TE}
theorem ev_isi {x c : V} {u t : Value} {b : Bool} (ha : Ev te σ H x) (hb : Ev tb σ H c) (k : ClsV c u) (ty : ∀ H1, Ex H H1 → TyX K H1 x t) (e : PySem.W.kitOne K t u = some b) :
    Ev (tCB (rIsi K) (tCons te (tCons tb tNil))) σ H (.bl b) := ev_cb (ea_cons ha (ea_cons hb ea_nil)) fun H1 ex Q q => ⟨x, c, t, u, b, rfl, k, ty H1 ex, e, q H1 (Ex.refl H1)⟩
end
/-! ### the spring -/
def SpringAt (H : Hp) (p : Addr) : Prop := ∃ l m t : Int, H p = some (.lst [.int l, .int m, .int t])
def spSpring (K : PySem.W.Frag) : Sp := fun vs H Q _ => ∃ (a : Addr) (ns : List Int) (k : Nat), vs = [.ref a, .int k] ∧
  SqL K H a (ns.map V.int) ∧ ns.length ≤ 63 ∧ k ≤ 1000 ∧
  ∀ p H', H p = none → Ex H H' → SpringAt H' p → Q (.ref p) H'
def spDraw : Sp := fun vs H Q _ => ∃ (p : Addr) (n : Int), vs = [.ref p, .int n] ∧ 0 < n ∧ n < 100000000 ∧ SpringAt H p ∧
  ∀ (d : Int) H', 0 ≤ d → d < n → But p H H' → SpringAt H' p → Q (.int d) H'
def spOf (K : PySem.W.Frag) : Sp := fun vs H Q _ => ∃ (p a : Addr) (xs : List V), vs = [.ref p, .ref a] ∧ SqL K H a xs ∧ a ≠ p ∧
  0 < xs.length ∧ xs.length < 1000000 ∧ SpringAt H p ∧
  ∀ x H', x ∈ xs → But p H H' → SpringAt H' p → Q x H'

theorem SpringAt.ext {H H' : Hp} {p : Addr} (s : SpringAt H p) (e : Ex H H') : SpringAt H' p :=
  let ⟨l, m, t, h⟩ := s
  ⟨l, m, t, e _ _ h⟩
theorem SpringAt.some {H : Hp} {p : Addr} (s : SpringAt H p) : H p ≠ none := fun z => by
  obtain ⟨l, m, t, h⟩ := s
  rw [z] at h
  cases h
section
variable {K : PySem.W.Frag} {σ : L2.St} {H : Hp} {p : Addr} {Q : VK} {E : XK}
theorem of_ev {tl : TE} {vs : List V} (h : EvL tl σ H vs) (hp : σ[0]? = some (some (.ref p))) (sp : SpringAt H p) (n0 : 0 < vs.length) (n1 : vs.length < 1000)
    (k : ∀ x H', x ∈ vs → But p H H' → SpringAt H' p → Q x H') : tCall (spOf K) [] E (tCons (tVar 0) (tCons tl tNil)) σ H Q :=
  ⟨.ref p, hp, h H (Ex.refl H) _ fun l H1 nl e hl => ⟨p, l, vs, rfl, sq_of hl, fun z => sp.some (z ▸ nl), n0, by omega, sp.ext e, fun x H' hx but sp' => k x H' hx ((But.of e).trans but) sp'⟩⟩
theorem draw_ev {n : Int} (hp : σ[0]? = some (some (.ref p))) (sp : SpringAt H p) (n0 : 0 < n) (n1 : n < 100000000)
    (k : ∀ d H', 0 ≤ d → d < n → But p H H' → SpringAt H' p → Q (.int d) H') : tCall spDraw [] E (tCons (tVar 0) (tCons (tC (.int n)) tNil)) σ H Q :=
  ⟨.ref p, hp, p, n, rfl, n0, by omega, sp, k⟩
end
/-! ### draws that tell scalars -/
def EvS (te : TE) (σ : L2.St) (p : Addr) (R : V → Prop) : Prop := ∀ H1, SpringAt H1 p → ∀ Q : VK, (∀ v H2, But p H1 H2 → SpringAt H2 p → R v → Q v H2) → te σ H1 Q
def EvSs (ta : TA) (σ : L2.St) (p : Addr) (R : List V → Prop) : Prop := ∀ H1, SpringAt H1 p → ∀ Q : List V → Hp → Prop, (∀ vs H2, But p H1 H2 → SpringAt H2 p → R vs → Q vs H2) → ta σ H1 Q
theorem But.refl {p : Addr} (H : Hp) : But p H H := fun _ _ _ e => e
section
variable {K : PySem.W.Frag} {σ : L2.St} {p : Addr} {ta tb te : TE} {t : TA} {A B : Int → Prop} {S T : Str → Prop} {R : V → Prop} {U : List V → Prop}
theorem q_asgE' {D : Ends} {tz : TS} {i : Nat} {H : Hp} (h : te σ H fun v H1 => tz D (σ.set i (some v)) H1) : tSeq (tAsg te (gName i)) tz D σ H := h
def isI (A : Int → Prop) (v : V) : Prop := ∃ i, v = .int i ∧ A i
def isS (S : Str → Prop) (v : V) : Prop := ∃ s, v = .str s ∧ S s
theorem es_imp {R' : V → Prop} (h : EvS te σ p R) (i : ∀ v, R v → R' v) : EvS te σ p R' := fun H1 sp Q q => h H1 sp Q fun v H2 b s r => q v H2 b s (i v r)
theorem es_int {i : Int} : EvS (tC (.int i)) σ p (isI (· = i)) := fun H1 sp Q q => q _ H1 (But.refl H1) sp ⟨i, rfl, rfl⟩
theorem es_str {s : Str} : EvS (tC (.str s)) σ p (isS (· = s)) := fun H1 sp Q q => q _ H1 (But.refl H1) sp ⟨s, rfl, rfl⟩
theorem es_varI {j : Nat} {i : Int} (h : σ[j]? = some (some (.int i))) : EvS (tVar j) σ p (isI (· = i)) := fun H1 sp Q q => ⟨_, h, q _ H1 (But.refl H1) sp ⟨i, rfl, rfl⟩⟩
theorem es_varS {j : Nat} {s : Str} (h : σ[j]? = some (some (.str s))) : EvS (tVar j) σ p (isS (· = s)) := fun H1 sp Q q => ⟨_, h, q _ H1 (But.refl H1) sp ⟨s, rfl, rfl⟩⟩
theorem es_draw {n : Int} {E : XK} (hp : σ[0]? = some (some (.ref p))) (n0 : 0 < n) (n1 : n < 100000000) : EvS (tCall spDraw [] E (tCons (tVar 0) (tCons (tC (.int n)) tNil))) σ p (isI fun d => 0 ≤ d ∧ d < n) := fun H1 sp Q q =>
  draw_ev hp sp n0 n1 fun d H' h0 h1 b s => q _ H' b s ⟨d, rfl, h0, h1⟩
theorem es_add (ha : EvS ta σ p (isI A)) (hb : EvS tb σ p (isI B)) : EvS (tOp (rI0 fun i j => .int (i + j)) ta tb) σ p (isI fun k => ∃ i j, A i ∧ B j ∧ k = i + j) := fun H1 sp Q q =>
  ha H1 sp _ fun v H2 b2 s2 ⟨i, ev, hi⟩ => hb H2 s2 _ fun u H3 b3 s3 ⟨j, eu, hj⟩ => ⟨i, j, ev, eu, q _ H3 (b2.trans b3) s3 ⟨i + j, rfl, i, j, hi, hj, rfl⟩⟩





theorem ess_nil : EvSs tNil σ p (· = []) := fun H1 sp Q q => q _ H1 (But.refl H1) sp rfl
theorem ess_cons (h : EvS te σ p R) (hr : EvSs t σ p U) : EvSs (tCons te t) σ p (fun vs => ∃ v us, R v ∧ U us ∧ vs = v :: us) := fun H1 sp Q q =>
  h H1 sp _ fun v H2 b2 s2 r => hr H2 s2 _ fun us H3 b3 s3 u => q _ H3 (b2.trans b3) s3 ⟨v, us, r, u, rfl⟩
/-- one of a menu that is written there -/
theorem es_pick {E : XK} {n : Nat} (hp : σ[0]? = some (some (.ref p))) (h : EvSs t σ p U) (n0 : 0 < n) (n1 : n < 1000) (hU : ∀ vs, U vs → vs.length = n) : EvS (tCall (spOf K) [] E (tCons (tVar 0) (tCons (tLst t) tNil))) σ p (fun x => ∃ vs, U vs ∧ x ∈ vs) := fun H1 sp Q q =>
  ⟨.ref p, hp, h H1 sp _ fun vs H2 b2 s2 u => by
    have hn := hU vs u
    refine ⟨sz_of (by omega), fun l nl => ?_⟩
    have el := Ex.new (o := .lst vs) nl
    exact ⟨p, l, vs, rfl, sq_of upd_same, fun z => s2.some (z ▸ nl), by omega, by omega, s2.ext el, fun x H3 hx b3 s3 => q x H3 ((b2.trans (But.of el)).trans b3) s3 ⟨vs, u, hx⟩⟩⟩
/-- a list written there -/
theorem es_lst (h : EvSs t σ p U) (hU : ∀ vs, U vs → vs.length ≤ 1000) {H1 : Hp} (sp : SpringAt H1 p) {Q : VK} (q : ∀ l vs H2, H1 l = none → But p H1 H2 → SpringAt H2 p → H2 l = some (.lst vs) → U vs → Q (.ref l) H2) : tLst t σ H1 Q :=
  h H1 sp _ fun vs H2 b2 s2 u => ⟨sz_of (by have := hU vs u; omega), fun l nl => by
    have el := Ex.new (o := .lst vs) nl
    refine q l vs _ ?_ (b2.trans (But.of el)) (s2.ext el) upd_same u
    cases z : H1 l with
    | none => rfl
    | some o =>
      have lp : l ≠ p := fun y => s2.some (y ▸ nl)
      rw [b2 _ _ lp z] at nl
      cases nl⟩
theorem q_asgS {D : Ends} {tz : TS} {i : Nat} {H : Hp} (h : EvS te σ p R) (sp : SpringAt H p) (k : ∀ v H1, But p H H1 → SpringAt H1 p → R v → tz D (σ.set i (some v)) H1) : tSeq (tAsg te (gName i)) tz D σ H := h H sp _ fun v H1 b s r => k v H1 b s r
end
section
variable {K : PySem.W.Frag} {σ : L2.St} {H : Hp} {C CD CP x r l dx p q dxr : Addr} {cs : List V} {ta te tb : TE} {E : XK}
theorem datR_mono (d : PyData) : Mono (fun H v => Dat H v d) := fun _ _ _ e h => Dat.mono e h
theorem ers_dnil : EvRs tNil σ H (fun H' vs => Dats H' vs []) := ers_nil fun _ _ => .nil
theorem ers_dcons {t : TA} {d : PyData} {ds : List PyData} (h : EvR te σ H (fun H' v => Dat H' v d)) (hr : EvRs t σ H (fun H' vs => Dats H' vs ds)) : EvRs (tCons te t) σ H (fun H' vs => Dats H' vs (d :: ds)) :=
  ers_cons (datR_mono d) h hr fun _ _ _ _ a b => .cons a b
theorem er_dlst {t : TA} {ds : List PyData} (h : EvRs t σ H (fun H' vs => Dats H' vs ds)) (hz : ds.length ≤ 1000) : EvR (tLst t) σ H (fun H' v => Dat H' v (.list ds)) := fun H1 e Q q =>
  h H1 e _ fun vs H2 e2 s => ⟨sz_of (by rw [Dats.len s]; omega), fun r hr => q (.ref r) _ (e2.trans (Ex.new hr)) (.lst (.inl upd_same) (Dats.mono (Ex.new hr) s))⟩
theorem er_dtup {t : TA} {ds : List PyData} (h : EvRs t σ H (fun H' vs => Dats H' vs ds)) (hz : ds.length ≤ 1000) : EvR (tTup t) σ H (fun H' v => Dat H' v (.tuple ds)) := fun H1 e Q q =>
  h H1 e _ fun vs H2 e2 s => ⟨sz_of (by rw [Dats.len s]; omega), fun r hr => q (.ref r) _ (e2.trans (Ex.new hr)) (.tup (.inl upd_same) (Dats.mono (Ex.new hr) s))⟩
theorem er_dvar {i : Nat} {v : V} {d : PyData} (h : σ[i]? = some (some v)) (hd : Dat H v d) : EvR (tVar i) σ H (fun H' v => Dat H' v d) := er_of (ev_var h) fun _ e => Dat.mono e hd
theorem er_dint {i : Int} : EvR (tC (.int i)) σ H (fun H' v => Dat H' v (.int i)) := er_of ev_c fun _ _ => .int i
theorem er_dnon : EvR (tC .non) σ H (fun H' v => Dat H' v .none) := er_of ev_c fun _ _ => .non
theorem ev_reprE {d : PyData} (h : EvR te σ H (fun H' v => Dat H' v d)) (sh : d.showable = true) (sz : d.shown.length ≤ sizeLine) (dp : d.depth ≤ 40) : Ev (tCB (rRepr K) (tCons te tNil)) σ H (.str d.shown) := fun H1 e Q q =>
  h H1 e _ fun v H2 e2 hd => ⟨v, d, rfl, hd, sh, sz, dp, q H2 e2⟩
end
def intsD (ns : List Int) : PyData := .tuple (ns.map PyData.int)
def heapsD (hs : List (List Int)) : PyData := .tuple (hs.map intsD)
theorem dats_ints {H : Hp} : ∀ ns : List Int, Dats H (ns.map V.int) (ns.map PyData.int)
  | [] => .nil
  | n :: ns => .cons (.int n) (dats_ints ns)
theorem ints_of {H : Hp} : ∀ {ns : List Int} {vs : List V}, Dats H vs (ns.map PyData.int) → vs = ns.map V.int
  | [], vs, h => by
    cases h
    rfl
  | n :: ns, vs, h => by
    cases h with
    | cons a r =>
      cases a
      rw [ints_of r]
      rfl
theorem dat_ints {H : Hp} {p : Addr} {ns : List Int} (h : Rd H p (.tup (ns.map V.int))) : Dat H (.ref p) (intsD ns) := .tup h (dats_ints ns)
theorem ints_dat {H : Hp} {v : V} {ns : List Int} (h : Dat H v (intsD ns)) : ∃ p, v = .ref p ∧ Rd H p (.tup (ns.map V.int)) := by
  cases h with
  | tup h r =>
    rw [ints_of r] at h
    exact ⟨_, rfl, h⟩
mutual
theorem dp_dat {K : PySem.W.Frag} {H : Hp} : ∀ {v : V} {d : PyData}, Dat H v d → d.hasDict = false → Dp K H v d
  | _, _, .non, _ => .non
  | _, _, .bl b, _ => .bl b
  | _, _, .int i, _ => .int i
  | _, _, .str x, _ => .str x
  | _, _, .lst h r, z => .lst (.inl h) (dps_dat r (by simpa [PyData.hasDict] using z))
  | _, _, .tup h r, z => .tup (.inl h) (dps_dat r (by simpa [PyData.hasDict] using z))
  | _, _, .dic h r, z => by simp [PyData.hasDict] at z
theorem dps_dat {K : PySem.W.Frag} {H : Hp} : ∀ {vs : List V} {ds : List PyData}, Dats H vs ds → PyData.hasDictAll ds = false → DpAll K H vs ds
  | _, _, .nil, _ => .nil
  | _, _, .cons a r, z => by
    simp only [PyData.hasDictAll, Bool.or_eq_false_iff] at z
    exact .cons (dp_dat a z.1) (dps_dat r z.2)
end
theorem dp_ints {K : PySem.W.Frag} {H : Hp} : ∀ ns : List Int, DpAll K H (ns.map V.int) (ns.map PyData.int)
  | [] => .nil
  | n :: ns => .cons (.int n) (dp_ints ns)
theorem two_dat {H : Hp} {xs : List V} {d e : PyData} (h : Dats H xs [d, e]) : ∃ u v, xs = [u, v] ∧ Dat H u d ∧ Dat H v e := by
  cases h with
  | cons a r => cases r with
    | cons b r => cases r; exact ⟨_, _, rfl, a, b⟩
theorem atI_last (l : List V) (x : V) : atI (l ++ [x]) (-1) = some x := by
  unfold atI
  have q : ixN (l ++ [x]).length (-1) = some l.length := by
    rw [List.length_append, List.length_singleton]
    unfold ixN
    simp
    omega
  rw [q]
  show (l ++ [x])[l.length]? = some x
  rw [List.getElem?_append_right (Nat.le_refl _), Nat.sub_self]
  rfl
theorem ints_lay : ∀ ns : List Int, PyData.canLayAll0 (ns.map PyData.int) = true
  | [] => by simp [PyData.canLayAll0]
  | n :: ns => by simp [PyData.canLayAll0, PyData.canLay0, ints_lay ns]
theorem ints_depth : ∀ ns : List Int, PyData.depthAll (ns.map PyData.int) = 0
  | [] => by simp [PyData.depthAll]
  | n :: ns => by simp [PyData.depthAll, PyData.depth, ints_depth ns]
theorem shaped_ints (ns : List Int) : SeqAt.shaped (.list (ns.map PyData.int)) = true := by
  unfold SeqAt.shaped
  simp [PyData.canLay0, PyData.depth, ints_lay, ints_depth]
section
variable {K : PySem.W.Frag} {σ : L2.St} {H : Hp} {ta tb te : TE}
theorem ev_neInts {xs ys : List Int} (ha : EvL ta σ H (xs.map V.int)) (hb : EvL tb σ H (ys.map V.int)) : Ev (tOp (rNeD K) ta tb) σ H (.bl (!PyData.eqv (.list (xs.map PyData.int)) (.list (ys.map PyData.int)))) :=
  ev_opLL ha hb fun p q H1 hp hq e H2 e2 Q k => ⟨_, _, .lst (sq_of (e2 _ _ hp)) (dp_ints xs), .lst (sq_of (e2 _ _ hq)) (dp_ints ys), shaped_ints xs, shaped_ints ys, k H2 (Ex.refl H2)⟩
theorem eqv_ints (xs : List Int) : PyData.eqv (.list (xs.map PyData.int)) (.list (xs.map PyData.int)) = true := PySem.SeqAt.eqv_refl _ (by
  simp only [PyData.canLay0]
  exact ints_lay xs)
theorem ev_neDR {d e : PyData} (ha : EvR ta σ H (fun H' v => Dat H' v d)) (hb : EvR tb σ H (fun H' v => Dat H' v e)) (nd : d.hasDict = false) (ne : e.hasDict = false) (s1 : SeqAt.shaped d = true) (s2 : SeqAt.shaped e = true) : Ev (tOp (rNeD K) ta tb) σ H (.bl (!PyData.eqv d e)) := fun H1 ex Q q =>
  ha H1 ex _ fun v H2 e2 hv => hb H2 (ex.trans e2) _ fun u H3 e3 hu => ⟨d, e, dp_dat (Dat.mono e3 hv) nd, dp_dat hu ne, s1, s2, q H3 (e2.trans e3)⟩
end
structure Cl8 (P : Program) (w : World) (K : PySem.W.Frag) (mg : Str → Option Value) (base : Heap) (x : Str) (f : Addr) (fd : FuncData) (ps : List Str) (n : Nat) (sp : Sp) : Prop where
  G : FnOk P w K mg base CX0 n f fd ps sp
  m : mg x = some (.ref f)
  k : PySem.W.keepIn K (.ref f) = true
  b : Binds K fd ps []
theorem kb2 {K : PySem.W.Frag} {fd : FuncData} {ps ks : List Str} (h2 : ps.length = 2) (h : ∀ (s : Shared) (c r : Value), BindsTo s fd ⟨[], ks.zip [c, r]⟩ (ps.zip [r, c])) : KBinds K fd ps ks g2 g2V := by
  refine ⟨fun s us ws _ hl => ?_, rel2⟩
  rw [h2] at hl
  rcases us with _ | ⟨u, us⟩
  · rcases ws with _ | ⟨c, _ | ⟨r, _ | ⟨z, zs⟩⟩⟩
    · cases hl
    · cases hl
    · exact h s c r
    · cases hl
  · cases hl
theorem kb3 {K : PySem.W.Frag} {fd : FuncData} {ps ks : List Str} (h2 : ps.length = 3) (h : ∀ (s : Shared) (c q r : Value), BindsTo s fd ⟨[], ks.zip [c, q, r]⟩ (ps.zip [r, q, c])) : KBinds K fd ps ks g3 g3V := by
  refine ⟨fun s us ws _ hl => ?_, rel3⟩
  rw [h2] at hl
  rcases us with _ | ⟨u, us⟩
  · rcases ws with _ | ⟨c, _ | ⟨q, _ | ⟨r, _ | ⟨z, zs⟩⟩⟩⟩
    · cases hl
    · cases hl
    · cases hl
    · exact h s c q r
    · cases hl
  · cases hl
theorem kb4 {K : PySem.W.Frag} {fd : FuncData} {ps ks : List Str} (h2 : ps.length = 4) (h : ∀ (s : Shared) (c m q r : Value), BindsTo s fd ⟨[], ks.zip [c, m, q, r]⟩ (ps.zip [r, q, m, c])) : KBinds K fd ps ks g4 g4V := by
  refine ⟨fun s us ws _ hl => ?_, rel4⟩
  rw [h2] at hl
  rcases us with _ | ⟨u, us⟩
  · rcases ws with _ | ⟨c, _ | ⟨m, _ | ⟨q, _ | ⟨r, _ | ⟨z, zs⟩⟩⟩⟩⟩
    · cases hl
    · cases hl
    · cases hl
    · cases hl
    · exact h s c m q r
    · cases hl
  · cases hl
def rMin2 : List V → Hp → VK → Prop := fun xs H Q => ∃ i j, xs = [.int i, .int j] ∧ Q (.int (if j < i then j else i)) H
theorem ev_min2 {ta tb : TE} {σ : L2.St} {H : Hp} {i j : Int} (ha : Ev ta σ H (.int i)) (hb : Ev tb σ H (.int j)) : Ev (tCB rMin2 (tCons ta (tCons tb tNil))) σ H (.int (if j < i then j else i)) :=
  ev_cb (ea_cons ha (ea_cons hb ea_nil)) fun H1 _ Q q => ⟨i, j, rfl, q H1 (Ex.refl H1)⟩
theorem ev_allL {K : PySem.W.Frag} {te : TE} {σ : L2.St} {H : Hp} {bs : List Bool} (h : EvL te σ H (bs.map V.bl)) : Ev (tCB (rAll K) (tCons te tNil)) σ H (.bl (bs.all id)) := fun H1 e Q q =>
  h H1 e _ fun p H2 _ e2 h2 => ⟨p, bs, rfl, sq_of h2, q H2 e2⟩
theorem el_is {te : TE} {σ : L2.St} {H : Hp} {xs ys : List V} (h : EvL te σ H xs) (e : xs = ys) : EvL te σ H ys := e ▸ h
theorem given_true (n : Nat) (v : Nat → V) : given n (fun _ => true) v = (List.range n).map v := by
  unfold given
  rw [List.filter_eq_self.mpr fun _ _ => rfl]
theorem eq_tupleL {K : PySem.W.Frag} {σ : L2.St} {H : Hp} {te : TE} {xs : List V} (h : EvL te σ H xs) : EvQ (tCB (fun vs H Q => ∃ p ys, vs = [.ref p] ∧ ((SqL K H p ys ∧ ∀ l, H l = none → Q (.ref l) (upd H l (.tup ys))) ∨ (SqT K H p ys ∧ Q (.ref p) H))) (tCons te tNil)) σ H xs := fun H1 e Q q =>
  h H1 e _ fun p H2 n e2 h2 => ⟨p, xs, rfl, .inl ⟨sq_of h2, fun l hl => q _ _ (e2.trans (Ex.new hl)) ⟨l, rfl, .inl upd_same⟩⟩⟩
theorem given_bl (n : Nat) : given n (fun _ => true) (fun _ => V.bl true) = (List.replicate n true).map V.bl := by
  rw [given_true, List.map_replicate]
  exact List.ext_getElem? fun i => by
    rw [List.getElem?_map, List.getElem?_replicate]
    by_cases h : i < n
    · rw [List.getElem?_range h, if_pos h]
      rfl
    · rw [if_neg h, List.getElem?_eq_none (by rw [List.length_range]; omega)]
      rfl
theorem et_yes {σ : L2.St} {H : Hp} : EvT tYes σ H true := fun H1 _ _ q => q H1 (Ex.refl H1)
def Pw (k : Nat) (n : Int) : Prop := n.natAbs < 2 ^ k
theorem Pw.le {j k : Nat} {n : Int} (h : Pw j n) (e : j ≤ k) : Pw k n := Nat.lt_of_lt_of_le h (Nat.pow_le_pow_right (by decide) e)
/-- what repr asks of numbers of at most 600 bits -/
theorem big_int {n : Int} (h : Pw 600 n) : (PyData.int n).showable = true ∧ (PyData.int n).leavesShort 2000 = true ∧ (PyData.int n).weight ≤ 600 := by
  have l : n.natAbs.log2 < 600 := by
    by_cases z : n.natAbs = 0
    · rw [z]; decide
    · exact (Nat.log2_lt z).mpr h
  refine ⟨?_, ?_, ?_⟩
  · simp only [PyData.showable, decide_eq_true_eq]
    omega
  · have e := int_text_length_le (k := 600) (by decide) l
    refine decide_eq_true ?_
    show (Str.ofString (toString n)).length ≤ 2000
    rw [PySem.ofString_length]
    omega
  · simp only [PyData.weight]
    split <;> omega
theorem big_ints : ∀ {ns : List Int}, (∀ n ∈ ns, Pw 600 n) → PyData.showableAll (ns.map PyData.int) = true ∧ PyData.leavesShortAll 2000 (ns.map PyData.int) = true ∧ PyData.weightAll (ns.map PyData.int) ≤ 601 * ns.length
  | [], _ => by simp [PyData.showableAll, PyData.leavesShortAll, PyData.weightAll]
  | n :: ns, h => by
    obtain ⟨i1, i2, i3⟩ := big_ints (ns := ns) fun x hx => h x (List.mem_cons_of_mem _ hx)
    obtain ⟨s1, s2, s3⟩ := big_int (h n List.mem_cons_self)
    simp only [List.map_cons, PyData.showableAll, PyData.leavesShortAll, PyData.weightAll, s1, s2, i1, i2, Bool.and_self, List.length_cons, true_and]
    omega
theorem fit_ints {ns : List Int} (h : ∀ n ∈ ns, Pw 600 n) (hl : ns.length ≤ 4) : (PyData.list (ns.map PyData.int)).showable = true ∧ (PyData.list (ns.map PyData.int)).shown.length ≤ sizeLine ∧ (PyData.list (ns.map PyData.int)).depth ≤ 40 := by
  obtain ⟨a, b, c⟩ := big_ints h
  have s : (PyData.list (ns.map PyData.int)).leavesShort 2000 = true := by simpa only [PyData.leavesShort] using b
  refine ⟨by simpa only [PyData.showable] using a, ?_, ?_⟩
  · have := PyData.shown_le 2000 (by decide) _ s
    simp only [PyData.weight] at this
    have sl : 10000000 ≤ sizeLine := by decide
    refine Nat.le_trans this (Nat.le_trans ?_ sl)
    have : PyData.weightAll (ns.map PyData.int) ≤ 2404 := by omega
    omega
  · simp only [PyData.depth, ints_depth]
    omega
section
variable {K : PySem.W.Frag} {σ : L2.St} {p : Addr} {ta tb te : TE} {t : TA} {A B : Int → Prop} {R : V → Prop} {U : List V → Prop}
theorem es_op {C : Int → Int → Prop} {g : Int → Int → Int} (ha : EvS ta σ p (isI A)) (hb : EvS tb σ p (isI B)) (hc : ∀ i j, A i → B j → C i j) : EvS (tOp (rI C fun i j => .int (g i j)) ta tb) σ p (isI fun k => ∃ i j, A i ∧ B j ∧ k = g i j) := fun H1 sp Q q =>
  ha H1 sp _ fun v H2 b2 s2 ⟨i, ev, hi⟩ => hb H2 s2 _ fun u H3 b3 s3 ⟨j, eu, hj⟩ => ⟨i, j, ev, eu, hc i j hi hj, q _ H3 (b2.trans b3) s3 ⟨_, rfl, i, j, hi, hj, rfl⟩⟩
theorem es_op0 {g : Int → Int → Int} (ha : EvS ta σ p (isI A)) (hb : EvS tb σ p (isI B)) : EvS (tOp (rI0 fun i j => .int (g i j)) ta tb) σ p (isI fun k => ∃ i j, A i ∧ B j ∧ k = g i j) := fun H1 sp Q q =>
  ha H1 sp _ fun v H2 b2 s2 ⟨i, ev, hi⟩ => hb H2 s2 _ fun u H3 b3 s3 ⟨j, eu, hj⟩ => ⟨i, j, ev, eu, q _ H3 (b2.trans b3) s3 ⟨_, rfl, i, j, hi, hj, rfl⟩⟩
theorem es_impI {A' : Int → Prop} (h : EvS te σ p (isI A)) (i : ∀ n, A n → A' n) : EvS te σ p (isI A') := es_imp h fun _ ⟨n, e, a⟩ => ⟨n, e, i n a⟩
theorem es_int1 (h : EvS te σ p (isI A)) : EvS (tCB (fun xs H Q => (∃ i, xs = [.int i] ∧ Q (.int i) H) ∨ ∃ k, xs = [.bl k] ∧ Q (.int (if k then 1 else 0)) H) (tCons te tNil)) σ p (isI A) := fun H1 sp Q q =>
  h H1 sp _ fun v H2 b2 s2 ⟨i, ev, hi⟩ => .inl ⟨i, by rw [ev], q _ H2 b2 s2 ⟨i, rfl, hi⟩⟩
theorem es_min2 (ha : EvS ta σ p (isI A)) (hb : EvS tb σ p (isI B)) : EvS (tCB rMin2 (tCons ta (tCons tb tNil))) σ p (isI fun k => ∃ i j, A i ∧ B j ∧ k = if j < i then j else i) := fun H1 sp Q q =>
  ha H1 sp _ fun v H2 b2 s2 ⟨i, ev, hi⟩ => hb H2 s2 _ fun u H3 b3 s3 ⟨j, eu, hj⟩ => ⟨i, j, by rw [ev, eu], q _ H3 (b2.trans b3) s3 ⟨_, rfl, i, j, hi, hj, rfl⟩⟩
theorem es_ev {v : V} (h : ∀ H, Ev te σ H v) : EvS te σ p (· = v) := fun H1 sp Q q => h H1 H1 (Ex.refl H1) Q fun H2 e => q v H2 (But.of e) (sp.ext e) rfl
theorem es_evI {i : Int} (h : ∀ H, Ev te σ H (.int i)) : EvS te σ p (isI (· = i)) := es_imp (es_ev h) fun _ e => ⟨i, e, rfl⟩
theorem q_parS {D : Ends} {tz : TS} {i j : Nat} {H : Hp} (ha : EvS ta σ p (isI A)) (hb : EvS tb σ p (isI B)) (sp : SpringAt H p) (k : ∀ x y H1, But p H H1 → SpringAt H1 p → A x → B y → tz D ((σ.set i (some (.int x))).set j (some (.int y))) H1) : tSeq (tPar i j (tCons ta (tCons tb tNil))) tz D σ H :=
  ha H sp _ fun v H1 b1 s1 ⟨x, ex, hx⟩ => hb H1 s1 _ fun u H2 b2 s2 ⟨y, ey, hy⟩ => ⟨v, u, rfl, by rw [ex, ey]; exact k x y H2 (b1.trans b2) s2 hx hy⟩
theorem q_asgI {D : Ends} {tz : TS} {i : Nat} {H : Hp} (h : EvS te σ p (isI A)) (sp : SpringAt H p) (k : ∀ x H1, But p H H1 → SpringAt H1 p → A x → tz D (σ.set i (some (.int x))) H1) : tSeq (tAsg te (gName i)) tz D σ H := h H sp _ fun v H1 b s ⟨x, e, hx⟩ => by
  rw [e]
  exact k x H1 b s hx
theorem s_retI {D : Ends} {H : Hp} (h : EvS te σ p (isI A)) (sp : SpringAt H p) (k : ∀ x H1, But p H H1 → SpringAt H1 p → A x → D.rt (.int x) H1) : tRet te D σ H := h H sp _ fun v H1 b s ⟨x, e, hx⟩ => by
  rw [e]
  exact k x H1 b s hx
theorem es_callI {sp0 : Sp} {E : XK} {i : Nat} (hp : σ[i]? = some (some (.ref p))) (h : ∀ H, SpringAt H p → ∀ Q : VK, (∀ x H', But p H H' → SpringAt H' p → A x → Q (.int x) H') → sp0 [.ref p] H Q E) : EvS (tCall sp0 [] E (tCons (tVar i) tNil)) σ p (isI A) := fun H1 sp Q q =>
  ⟨.ref p, hp, h H1 sp Q fun x H' b s a => q _ H' b s ⟨x, rfl, a⟩⟩
end
theorem cmod_of {i j : Int} (h : 0 < j) : 0 < j := h
/-- of whole numbers by a positive one -/
theorem div_next {x n : Int} (h : 0 < n) : (x + 1) / n = x / n + if (x + 1) % n = 0 then 1 else 0 := by
  have a := Int.emod_add_mul_ediv x n
  have b := Int.emod_add_mul_ediv (x + 1) n
  have a0 := Int.emod_nonneg x (by omega : n ≠ 0)
  have a1 := Int.emod_lt_of_pos x h
  have b0 := Int.emod_nonneg (x + 1) (by omega : n ≠ 0)
  have b1 := Int.emod_lt_of_pos (x + 1) h
  split
  · rename_i z
    have : (x + 1) / n = (x / n) + 1 := by
      by_cases w : x % n + 1 = n
      · have e : x + 1 = n * (x / n + 1) := by rw [Int.mul_add]; omega
        rw [e, Int.mul_ediv_cancel_left _ (by omega)]
      · have e : (x + 1) % n = x % n + 1 := by
          have : x + 1 = (x % n + 1) + n * (x / n) := by omega
          rw [this, Int.add_mul_emod_self_left, Int.emod_eq_of_lt (by omega) (by omega)]
        omega
    exact this
  · rename_i z
    have w : x % n + 1 < n := by
      by_cases w : x % n + 1 = n
      · exfalso
        have e : x + 1 = n * (x / n + 1) := by rw [Int.mul_add]; omega
        rw [e, Int.mul_emod_right] at z
        exact z rfl
      · omega
    have e : x + 1 = (x % n + 1) + n * (x / n) := by omega
    rw [e, Int.add_mul_ediv_left _ _ (by omega), Int.ediv_eq_zero_of_lt (by omega) w]
    omega
end PW
/-! G1: sums along a row that goes round; rests; pairs of numbers in tuples -/
namespace PW
open PySem PySem.Spec PyProof.Rows L2 Evl
/-! ### sums of days -/
def sumTo (a : Nat → Int) (b : Nat) : Nat → Int
  | 0 => 0
  | k + 1 => sumTo a b k + a (b + k)
theorem sumTo_add (a : Nat → Int) (b j : Nat) : ∀ k, sumTo a b (j + k) = sumTo a b j + sumTo a (b + j) k
  | 0 => by simp [sumTo]
  | k + 1 => by
    show sumTo a b (j + k) + a (b + (j + k)) = sumTo a b j + (sumTo a (b + j) k + a (b + j + k))
    rw [sumTo_add a b j k, Nat.add_assoc b j k]
    omega
theorem sumTo_mono {a : Nat → Int} (h : ∀ k, 0 ≤ a k) (b : Nat) {j k : Nat} (e : j ≤ k) : sumTo a b j ≤ sumTo a b k := by
  obtain ⟨d, rfl⟩ := Nat.exists_eq_add_of_le e
  clear e
  induction d with
  | zero => exact Int.le_refl _
  | succ d ih =>
    show sumTo a b j ≤ sumTo a b (j + d) + a (b + (j + d))
    have := h (b + (j + d))
    omega
theorem sumTo_cong {a a' : Nat → Int} {b b' : Nat} : ∀ {k}, (∀ i, i < k → a (b + i) = a' (b' + i)) → sumTo a b k = sumTo a' b' k
  | 0, _ => rfl
  | k + 1, h => by
    show sumTo a b k + a (b + k) = sumTo a' b' k + a' (b' + k)
    rw [sumTo_cong fun i hi => h i (by omega), h k (by omega)]
def rowOfI (ls : List Int) (k : Nat) : Int := ls.getD (k % ls.length) 0
theorem row_add (ls : List Int) (k : Nat) : rowOfI ls (k + ls.length) = rowOfI ls k := by
  unfold rowOfI
  rw [Nat.add_mod_right]
theorem row_nn {ls : List Int} (h : ∀ x ∈ ls, 0 ≤ x) (k : Nat) : 0 ≤ rowOfI ls k := by
  unfold rowOfI
  rw [List.getD_eq_getElem?_getD]
  cases z : ls[k % ls.length]? with
  | none => exact Int.le_refl _
  | some x => exact h x (List.mem_of_getElem? z)
theorem sum_getD : ∀ (ls : List Int), sumTo (fun k => ls.getD k 0) 0 ls.length = ls.sum := by
  intro ls
  have key : ∀ k, k ≤ ls.length → sumTo (fun k => ls.getD k 0) 0 k = (ls.take k).sum := by
    intro k hk
    induction k with
    | zero => rfl
    | succ k ih =>
      show sumTo _ 0 k + ls.getD (0 + k) 0 = _
      have hk2 : k < ls.length := hk
      rw [ih (by omega), Nat.zero_add, List.take_succ_eq_append_getElem hk2, List.sum_append, List.getD_eq_getElem?_getD, List.getElem?_eq_getElem hk2]
      simp
  rw [key _ (Nat.le_refl _), List.take_of_length_le (Nat.le_refl _)]
/-- a whole round from any row has the same sum -/
theorem round_sum {ls : List Int} (hm : 0 < ls.length) : ∀ b, sumTo (rowOfI ls) b ls.length = ls.sum
  | 0 => by
    rw [← sum_getD ls]
    refine sumTo_cong fun i hi => ?_
    unfold rowOfI
    rw [Nat.zero_add, Nat.mod_eq_of_lt hi]
  | b + 1 => by
    have ih := round_sum hm b
    have e1 := sumTo_add (rowOfI ls) b 1 ls.length
    have e2 : sumTo (rowOfI ls) b (1 + ls.length) = sumTo (rowOfI ls) b ls.length + rowOfI ls (b + ls.length) := by rw [Nat.add_comm 1]; rfl
    have e3 : sumTo (rowOfI ls) b 1 = rowOfI ls b := by show 0 + rowOfI ls (b + 0) = _; simp
    rw [row_add] at e2
    rw [e3] at e1
    omega
theorem rounds_sum {ls : List Int} (hm : 0 < ls.length) (b : Nat) : ∀ r d, sumTo (rowOfI ls) b (r * ls.length + d) = (r : Int) * ls.sum + sumTo (rowOfI ls) b d
  | 0, d => by simp
  | r + 1, d => by
    have e : (r + 1) * ls.length + d = ls.length + (r * ls.length + d) := by rw [Nat.add_mul]; omega
    rw [e, sumTo_add, round_sum hm]
    have h : sumTo (rowOfI ls) (b + ls.length) (r * ls.length + d) = sumTo (rowOfI ls) b (r * ls.length + d) := sumTo_cong fun i _ => by
      have e2 : b + ls.length + i = b + i + ls.length := by omega
      rw [e2, row_add]
    rw [h, rounds_sum hm b r d]
    have e4 : ((r + 1 : Nat) : Int) * ls.sum = (r : Int) * ls.sum + ls.sum := by
      rw [Int.natCast_add, Int.add_mul]
      simp
    rw [e4]
    omega
/-- the greatest rest: some days within n - 1, no days one more -/
structure IsRest (a : Nat → Int) (n t : Int) : Prop where
  nn : 0 ≤ t
  some : ∃ b, sumTo a b t.toNat ≤ n - 1
  all : ∀ b, n ≤ sumTo a b (t.toNat + 1)
theorem IsRest.uniq {a : Nat → Int} {n t u : Int} (h : ∀ k, 0 ≤ a k) (x : IsRest a n t) (y : IsRest a n u) : t = u := by
  have key : ∀ {t u : Int}, IsRest a n t → IsRest a n u → ¬ t < u := by
    intro t u x y lt
    obtain ⟨b, hb⟩ := y.some
    have h1 := x.all b
    have h2 := sumTo_mono h b (j := t.toNat + 1) (k := u.toNat) (by have := x.nn; omega)
    omega
  have k1 := key x y
  have k2 := key y x
  omega
/-! ### days within -/
def daysIn : List Int → Int → Nat
  | [], _ => 0
  | x :: xs, l => if l - x < 0 then 0 else daysIn xs (l - x) + 1
theorem daysIn_le : ∀ (xs : List Int) (l : Int), daysIn xs l ≤ xs.length
  | [], _ => Nat.le_refl _
  | x :: xs, l => by
    unfold daysIn
    split
    · exact Nat.zero_le _
    · exact Nat.succ_le_succ (daysIn_le xs _)
theorem daysIn_sum : ∀ (xs : List Int) (l : Int), 0 ≤ l → (xs.take (daysIn xs l)).sum ≤ l
  | [], l, h => by simpa [daysIn] using h
  | x :: xs, l, h => by
    unfold daysIn
    split
    · simpa using h
    · rename_i z
      have := daysIn_sum xs (l - x) (by omega)
      simp only [List.take_succ_cons, List.sum_cons]
      omega
theorem daysIn_more : ∀ (xs : List Int) (l : Int), daysIn xs l < xs.length → l < (xs.take (daysIn xs l + 1)).sum
  | [], l, h => by simp at h
  | x :: xs, l, h => by
    unfold daysIn at h ⊢
    split
    · rename_i z
      simp
      omega
    · rename_i z
      rw [if_neg z] at h
      have := daysIn_more xs (l - x) (by simpa using h)
      simp only [List.take_succ_cons, List.sum_cons]
      omega
def rotI (ls : List Int) (f : Nat) : List Int := ls.drop f ++ ls.take f
theorem rot_len {ls : List Int} {f : Nat} (h : f ≤ ls.length) : (rotI ls f).length = ls.length := by
  unfold rotI
  rw [List.length_append, List.length_drop, List.length_take]
  omega
theorem rot_get {ls : List Int} {f i : Nat} (hf : f < ls.length) (hi : i < ls.length) : (rotI ls f)[i]? = some (rowOfI ls (f + i)) := by
  unfold rotI rowOfI
  by_cases h : i < ls.length - f
  · rw [List.getElem?_append_left (by rw [List.length_drop]; exact h), List.getElem?_drop, Nat.mod_eq_of_lt (by omega), List.getD_eq_getElem?_getD, List.getElem?_eq_getElem (by omega)]
    rfl
  · rw [List.getElem?_append_right (by rw [List.length_drop]; omega), List.length_drop, List.getElem?_take, if_pos (by omega)]
    have e : (f + i) % ls.length = f + i - ls.length := by
      rw [Nat.mod_eq_sub_mod (by omega), Nat.mod_eq_of_lt (by omega)]
    rw [e, List.getD_eq_getElem?_getD, List.getElem?_eq_getElem (by omega : f + i - ls.length < ls.length), show i - (ls.length - f) = f + i - ls.length by omega, List.getElem?_eq_getElem (by omega : f + i - ls.length < ls.length)]
    rfl
theorem rot_sum {ls : List Int} {f : Nat} (hf : f < ls.length) : ∀ {k}, k ≤ ls.length → ((rotI ls f).take k).sum = sumTo (rowOfI ls) f k
  | 0, _ => rfl
  | k + 1, h => by
    rw [List.take_add_one, rot_get hf (by omega)]
    show _ = sumTo (rowOfI ls) f k + rowOfI ls (f + k)
    rw [← rot_sum hf (by omega : k ≤ ls.length)]
    simp
theorem sumTo_mod (ls : List Int) (b : Nat) (k : Nat) : sumTo (rowOfI ls) b k = sumTo (rowOfI ls) (b % ls.length) k := sumTo_cong fun i _ => by
  unfold rowOfI
  rw [Nat.mod_add_mod]
/-- what ring_rest comes to is the rest -/
theorem rest_is {ls : List Int} {n : Int} {d : Int} (nn : ∀ x ∈ ls, 0 ≤ x) (hm : 0 < ls.length) (hs : 0 < ls.sum) (n1 : 1 ≤ n)
    (h1 : ∃ f, f < ls.length ∧ d = (daysIn (rotI ls f) ((n - 1) % ls.sum) : Int)) (h2 : ∀ f, f < ls.length → (daysIn (rotI ls f) ((n - 1) % ls.sum) : Int) ≤ d) :
    IsRest (rowOfI ls) n ((n - 1) / ls.sum * (ls.length : Int) + d) := by
  obtain ⟨l, hl⟩ : ∃ l, l = (n - 1) % ls.sum := ⟨_, rfl⟩
  obtain ⟨r, hr⟩ : ∃ r, r = (n - 1) / ls.sum := ⟨_, rfl⟩
  have l0 : 0 ≤ l := hl ▸ Int.emod_nonneg _ (by omega)
  have l1 : l < ls.sum := hl ▸ Int.emod_lt_of_pos _ hs
  have r0 : 0 ≤ r := hr ▸ Int.ediv_nonneg (by omega) (by omega)
  have eq : ls.sum * r + l = n - 1 := by rw [hl, hr]; exact Int.mul_ediv_add_emod _ _
  rw [← hl] at h1 h2
  rw [← hr]
  obtain ⟨rn, rfl⟩ := Int.eq_ofNat_of_zero_le r0
  have short : ∀ f, f < ls.length → daysIn (rotI ls f) l < ls.length := fun f hf => by
    have a := daysIn_le (rotI ls f) l
    rw [rot_len (by omega)] at a
    refine Nat.lt_of_le_of_ne a fun z => ?_
    have b := daysIn_sum (rotI ls f) l l0
    rw [z, rot_sum hf (Nat.le_refl _), round_sum hm] at b
    omega
  obtain ⟨f, hf, hd⟩ := h1
  have sf := short f hf
  obtain ⟨dn, hdn⟩ : ∃ dn, dn = daysIn (rotI ls f) l := ⟨_, rfl⟩
  rw [← hdn] at hd sf
  subst hd
  have toN : ((rn : Int) * (ls.length : Int) + (dn : Int)).toNat = rn * ls.length + dn := by
    have : ((rn : Int) * (ls.length : Int) + (dn : Int)) = ((rn * ls.length + dn : Nat) : Int) := by simp
    rw [this, Int.toNat_natCast]
  have mulc : (rn : Int) * ls.sum = ls.sum * (rn : Int) := Int.mul_comm _ _
  refine ⟨by have : 0 ≤ (rn : Int) * (ls.length : Int) := Int.mul_nonneg (by omega) (by omega); omega, ⟨f, ?_⟩, fun b => ?_⟩
  · rw [toN, rounds_sum hm, mulc]
    have b := daysIn_sum (rotI ls f) l l0
    rw [← hdn, rot_sum hf (by omega)] at b
    omega
  · rw [toN, sumTo_mod, Nat.add_assoc, rounds_sum hm, mulc]
    have hb : b % ls.length < ls.length := Nat.mod_lt _ hm
    have m := daysIn_more (rotI ls (b % ls.length)) l (by rw [rot_len (by omega)]; exact short _ hb)
    have sb := short _ hb
    rw [rot_sum hb (by omega)] at m
    have le := h2 _ hb
    have mono := sumTo_mono (row_nn nn) (b % ls.length) (j := daysIn (rotI ls (b % ls.length)) l + 1) (k := dn + 1) (by omega)
    omega
end PW
/-! G2: three comparisons in a row; pairs in tuples; comprehensions over a tuple -/
namespace PW
open PySem PySem.Spec PyProof.Rows L2 Evl
section
variable {X : Cx} {a b c d : Expr} {ta tb tc td : TE} {pos : Pos}
/-- a op1 b op2 c op3 d -/
def tChain3 (r r' r2 : R2) (ta tb tc td : TE) : TE := fun σ H Q => ta σ H fun x H1 => tb σ H1 fun y H2 => r x y H2 fun z H3 => ∃ k, z = .bl k ∧
  (if k = true then tc σ H3 fun w H4 => r' y w H4 fun z2 H5 => ∃ k2, z2 = .bl k2 ∧ (if k2 = true then td σ H5 fun u H6 => r2 w u H6 Q else Q (.bl false) H5) else Q (.bl false) H3)
theorem pe_chain3 {op op' op2 : CmpOp} {r r' r2 : R2} (ho : OpR X (compareOp op) r) (ho' : OpR X (compareOp op') r') (ho2 : OpR X (compareOp op2) r2) (ha : PE X a ta) (hb : PE X b tb) (hc : PE X c tc) (hd : PE X d td)
    (hm : lastMarks [op, op', op2] [b, c, d] = false := by with_unfolding_all rfl) : PE X (.Compare a [op, op', op2] [b, c, d] pos) (tChain3 r r' r2 ta tb tc td) := by
  refine ⟨fun pins s σ H Q I h => ?_⟩
  refine Compare_chain (thn (ha.run pins s σ H _ I h) fun v s1 ⟨x, H1, I1, r1, q1⟩ => chain_link (thn (hb.run pins s1 σ H1 _ I1 q1) fun u s2 ⟨y, H2, I2, ry, q2⟩ =>
    thn (ho pins s2 σ H2 x y v u _ I2 r1 ry q2) fun d1 s3 ⟨z, H3, I3, r3, k, e, q3⟩ => ?_)) hm
  subst e
  cases r3
  refine wpAny_truthy_bool ?_
  cases k with
  | false => exact ite_ff ⟨.bl false, H3, I3, rfl, q3⟩
  | true =>
    refine ite_tt (chain_link (thn (hc.run pins s3 σ H3 _ I3 q3) fun w' s4 ⟨z', H4, I4, r4, q4⟩ => thn (ho' pins s4 σ H4 y z' u w' _ I4 ry r4 q4) fun d2 s5 ⟨z5, H5, I5, r5, k2, e2, q5⟩ => ?_))
    subst e2
    cases r5
    refine wpAny_truthy_bool ?_
    cases k2 with
    | false => exact ite_ff ⟨.bl false, H5, I5, rfl, q5⟩
    | true => exact ite_tt (chain_last (thn (hd.run pins s5 σ H5 _ I5 q5) fun w6 s6 ⟨z6, H6, I6, r6, q6⟩ => ho2 pins s6 σ H6 z' z6 w' w6 Q I6 r4 r6 q6))
end
section
variable {K : PySem.W.Frag} {σ : L2.St} {H : Hp} {ta tb tc td te : TE} {t : TT}
theorem ev_chain3 {i j k l : Int} (ha : Ev ta σ H (.int i)) (hb : Ev tb σ H (.int j)) (hc : Ev tc σ H (.int k)) (hd : Ev td σ H (.int l)) :
    Ev (tChain3 (rI0 fun i j => .bl (decide (i ≤ j))) (rI0 fun i j => .bl (decide (i ≤ j))) (rI0 fun i j => .bl (decide (i ≤ j))) ta tb tc td) σ H (.bl (decide (i ≤ j) && (decide (j ≤ k) && decide (k ≤ l)))) := fun H1 e Q q =>
  ha H1 e _ fun H2 e2 => hb H2 (e.trans e2) _ fun H3 e3 => ⟨i, j, rfl, rfl, _, rfl, by
    cases z1 : decide (i ≤ j) with
    | false =>
      rw [z1] at q
      exact q H3 (e2.trans e3)
    | true => exact hc H3 ((e.trans e2).trans e3) _ fun H4 e4 => ⟨j, k, rfl, rfl, _, rfl, by
        cases z2 : decide (j ≤ k) with
        | false =>
          rw [z1, z2] at q
          exact q H4 ((e2.trans e3).trans e4)
        | true =>
          rw [z1, z2] at q
          exact hd H4 (((e.trans e2).trans e3).trans e4) _ fun H5 e5 => ⟨k, l, rfl, rfl, q H5 (((e2.trans e3).trans e4).trans e5)⟩⟩⟩
/-! ### pairs of numbers -/
inductive Prs (H : Hp) : List V → List (Int × Int) → Prop
  | nil : Prs H [] []
  | cons {p : Addr} {a b : Int} {xs : List V} {ps : List (Int × Int)} (h : Rd H p (.tup [.int a, .int b])) (r : Prs H xs ps) : Prs H (.ref p :: xs) ((a, b) :: ps)
theorem Prs.len {H : Hp} : ∀ {xs : List V} {ps : List (Int × Int)}, Prs H xs ps → xs.length = ps.length
  | _, _, .nil => rfl
  | _, _, .cons _ r => congrArg (· + 1) r.len
def KeepT (H H' : Hp) : Prop := ∀ p xs, Rd H p (.tup xs) → Rd H' p (.tup xs)
theorem KeepT.ex {H H' : Hp} (e : Ex H H') : KeepT H H' := fun _ _ h => ex_rd e h
theorem KeepT.trans {H H1 H2 : Hp} (a : KeepT H H1) (b : KeepT H1 H2) : KeepT H H2 := fun p xs h => b p xs (a p xs h)
theorem keepT_but {H H' : Hp} {p : Addr} (s : SpringAt H p) (b : But p H H') : KeepT H H' := fun q xs h => by
  obtain ⟨x, y, z, hp⟩ := s
  rcases h with h | ⟨o, h⟩
  · refine .inl (b _ _ (fun e => ?_) h)
    subst e
    rw [hp] at h
    cases h
  · refine .inr ⟨o, b _ _ (fun e => ?_) h⟩
    subst e
    rw [hp] at h
    cases h
theorem keepT_lst {H : Hp} {l : Addr} {xs ys : List V} (h : H l = some (.lst xs)) : KeepT H (upd H l (.lst ys)) := fun q zs hq => by
  rcases hq with hq | ⟨o, hq⟩
  · exact .inl (by rw [upd_ne (fun e => by subst e; rw [h] at hq; cases hq)]; exact hq)
  · exact .inr ⟨o, by rw [upd_ne (fun e => by subst e; rw [h] at hq; cases hq)]; exact hq⟩
theorem Prs.keep {H H' : Hp} (k : KeepT H H') : ∀ {xs : List V} {ps : List (Int × Int)}, Prs H xs ps → Prs H' xs ps
  | _, _, .nil => .nil
  | _, _, .cons h r => .cons (k _ _ h) (r.keep k)
theorem Prs.app {H : Hp} : ∀ {xs ys : List V} {ps qs : List (Int × Int)}, Prs H xs ps → Prs H ys qs → Prs H (xs ++ ys) (ps ++ qs)
  | _, _, _, _, .nil, h => h
  | _, _, _, _, .cons a r, h => .cons a (r.app h)
theorem Prs.drop {H : Hp} : ∀ {xs : List V} {ps : List (Int × Int)} (n : Nat), Prs H xs ps → Prs H (xs.drop n) (ps.drop n)
  | _, _, 0, h => h
  | _, _, _ + 1, .nil => .nil
  | _, _, n + 1, .cons _ r => r.drop n
theorem Prs.take {H : Hp} : ∀ {xs : List V} {ps : List (Int × Int)} (n : Nat), Prs H xs ps → Prs H (xs.take n) (ps.take n)
  | _, _, 0, _ => .nil
  | _, _, _ + 1, .nil => .nil
  | _, _, n + 1, .cons h r => .cons h (r.take n)
theorem Prs.get {H : Hp} : ∀ {xs : List V} {ps : List (Int × Int)} {i : Nat} {x : V}, Prs H xs ps → xs[i]? = some x → ∃ p, x = .ref p ∧ Rd H p (.tup [.int (ps.getD i (0, 0)).1, .int (ps.getD i (0, 0)).2])
  | _, _, i, _, .nil, h => by simp at h
  | _, _, 0, _, .cons a r, h => by
    obtain rfl := Option.some.inj h
    exact ⟨_, rfl, a⟩
  | _, _, i + 1, _, .cons a r, h => r.get (i := i) h
theorem Prs.at {H : Hp} {xs : List V} {ps : List (Int × Int)} {i : Nat} (h : Prs H xs ps) (hi : i < ps.length) : ∃ p, xs[i]? = some (.ref p) ∧ Rd H p (.tup [.int (ps.getD i (0, 0)).1, .int (ps.getD i (0, 0)).2]) := by
  have hx : i < xs.length := by rw [h.len]; exact hi
  obtain ⟨p, e, hp⟩ := h.get (List.getElem?_eq_getElem hx)
  exact ⟨p, by rw [List.getElem?_eq_getElem hx, e], hp⟩
def TakesV (ps : List (Int × Int)) (H : Hp) (v : V) : Prop := ∃ p xs, v = .ref p ∧ Rd H p (.tup xs) ∧ Prs H xs ps
theorem TakesV.keep {ps : List (Int × Int)} {H H' : Hp} {v : V} (k : KeepT H H') : TakesV ps H v → TakesV ps H' v := fun ⟨p, xs, e, h, r⟩ => ⟨p, xs, e, k _ _ h, r.keep k⟩
theorem takesV_mono (ps : List (Int × Int)) : Mono (TakesV ps) := fun _ _ _ e h => h.keep (KeepT.ex e)
/-! ### a comprehension over a tuple that is there -/
theorem el_lcTG {a : Addr} {xs : List V} {tl : TE} {g : TG} {vs : List Nat} (f : Nat → Bool) (v : Nat → V) (st : Nat → L2.St) (h : Ev tl σ H (.ref a)) (hx : SqT K H a xs) (hz : xs.length ≤ 40000)
    (hg : ∀ (i : Nat) (x : V) H1 (R : L2.St → Hp → Prop), Ex H H1 → xs[i]? = some x → R (st i) H1 → g x (wipe σ vs) H1 R) (hw : ∀ i x, xs[i]? = some x → wipe (st i) vs = wipe σ vs)
    (ht : ∀ (i : Nat) (x : V) H1, Ex H H1 → xs[i]? = some x → EvT t (st i) H1 (f i)) (he : ∀ (i : Nat) (x : V) H1, Ex H H1 → xs[i]? = some x → f i = true → Ev te (st i) H1 (v i)) :
    EvL (tLc (iTup K tl) g t te vs) σ H (given xs.length f v) := fun H0 e Q q => h H0 e _ fun H1 e1 => ⟨a, rfl, ⟨xs, ex_t (e.trans e1) hx⟩, fun Dl hD =>
  lc_tup (xs := xs) (Cw H1 f v Dl) ⟨hD, Ex.new hD, upd_same⟩ (fun i H' _ p => ex_t ((e.trans e1).trans p.2.1) hx)
    (fun i x H' hi p => hg i x H' _ ((e.trans e1).trans p.2.1) hi ⟨hw i x hi, cw_turn p (by have := (List.getElem?_eq_some_iff.mp hi).1; omega) (ht i x H1 (e.trans e1) hi) (fun hf => he i x H1 (e.trans e1) hi hf)⟩)
    (fun H' p => q Dl H' (fresh_back e1 p.1) (e1.trans p.2.1) p.2.2)⟩
/-- new pairs, one for each thing of a tuple -/
theorem er_lcTP {a : Addr} {xs : List V} {tl te : TE} {j : Nat} {vs : List Nat} (ps : Nat → Int × Int) (h : Ev tl σ H (.ref a)) (hx : SqT K H a xs) (hz : xs.length ≤ 40000) (hw : ∀ x, wipe ((wipe σ vs).set j (some x)) vs = wipe σ vs)
    (he : ∀ (i : Nat) (x : V) H1, Ex H H1 → xs[i]? = some x → EvR te ((wipe σ vs).set j (some x)) H1 (fun H' y => ∃ p, y = .ref p ∧ Rd H' p (.tup [.int (ps i).1, .int (ps i).2]))) :
    EvR (tLc (iTup K tl) (gName j) tYes te vs) σ H (fun H' v => ∃ l ys, v = .ref l ∧ H' l = some (.lst ys) ∧ Prs H' ys ((List.range xs.length).map ps)) := fun H0 e Q q => h H0 e _ fun H1 e1 => ⟨a, rfl, ⟨xs, ex_t (e.trans e1) hx⟩, fun Dl hD =>
  lc_tup (xs := xs) (fun i H' => Ex H1 H' ∧ ∃ acc, H' Dl = some (.lst acc) ∧ Prs H' acc ((List.range i).map ps)) ⟨Ex.new hD, [], upd_same, .nil⟩ (fun i H' _ p => ex_t ((e.trans e1).trans p.1) hx)
    (fun i x H' hi p => ⟨hw x, by
      obtain ⟨p2, acc, p3, p4⟩ := p
      show te ((wipe σ vs).set j (some x)) H' fun y H4 => ∃ acc, H4 Dl = some (.lst acc) ∧ acc.length < sizeLine ∧ Ex H1 (upd H4 Dl (.lst (acc ++ [y]))) ∧ ∃ acc', (upd H4 Dl (.lst (acc ++ [y]))) Dl = some (.lst acc') ∧ Prs (upd H4 Dl (.lst (acc ++ [y]))) acc' ((List.range (i + 1)).map ps)
      have hix : i < xs.length := (List.getElem?_eq_some_iff.mp hi).1
      have al := p4.len
      rw [List.length_map, List.length_range] at al
      refine he i x H' ((e.trans e1).trans p2) hi H' (Ex.refl H') _ fun y H4 e4 ⟨pp, ey, hp⟩ => ⟨acc, e4 _ _ p3, sz_lt (by omega), Ex.mut (p2.trans e4) hD, acc ++ [y], upd_same, ?_⟩
      have k := keepT_lst (ys := acc ++ [y]) (e4 _ _ p3)
      rw [List.range_succ, List.map_append]
      subst ey
      exact (p4.keep ((KeepT.ex e4).trans k)).app (.cons (k _ _ hp) .nil)⟩)
    (fun H' p => by
      obtain ⟨p2, acc, p3, p4⟩ := p
      exact q (.ref Dl) H' (e1.trans p2) ⟨Dl, acc, rfl, p3, p4⟩)⟩
end
section
variable {K : PySem.W.Frag} {σ : L2.St} {H : Hp} {ta tb tc te : TE}
theorem exists_max : ∀ {ns : List Int}, 0 < ns.length → ∃ m, m ∈ ns ∧ ∀ y ∈ ns, y ≤ m
  | [x], _ => ⟨x, List.mem_singleton.mpr rfl, fun y hy => by rw [List.mem_singleton.mp hy]; exact Int.le_refl _⟩
  | x :: y :: ns, _ => by
    obtain ⟨m, hm, h⟩ := exists_max (ns := y :: ns) (by simp)
    by_cases z : m ≤ x
    · refine ⟨x, List.mem_cons_self, fun w hw => ?_⟩
      rcases List.mem_cons.mp hw with rfl | hw
      · exact Int.le_refl _
      · exact Int.le_trans (h w hw) z
    · refine ⟨m, List.mem_cons_of_mem _ hm, fun w hw => ?_⟩
      rcases List.mem_cons.mp hw with rfl | hw
      · omega
      · exact h w hw
theorem exists_min : ∀ {ns : List Int}, 0 < ns.length → ∃ m, m ∈ ns ∧ ∀ y ∈ ns, m ≤ y
  | [x], _ => ⟨x, List.mem_singleton.mpr rfl, fun y hy => by rw [List.mem_singleton.mp hy]; exact Int.le_refl _⟩
  | x :: y :: ns, _ => by
    obtain ⟨m, hm, h⟩ := exists_min (ns := y :: ns) (by simp)
    by_cases z : x ≤ m
    · refine ⟨x, List.mem_cons_self, fun w hw => ?_⟩
      rcases List.mem_cons.mp hw with rfl | hw
      · exact Int.le_refl _
      · exact Int.le_trans z (h w hw)
    · refine ⟨m, List.mem_cons_of_mem _ hm, fun w hw => ?_⟩
      rcases List.mem_cons.mp hw with rfl | hw
      · omega
      · exact h w hw
theorem ev_sumL {p : Addr} {ns : List Int} (ha : Ev ta σ H (.ref p)) (hp : SqL K H p (ns.map V.int)) : Ev (tCB (rSum K) (tCons ta tNil)) σ H (.int ns.sum) := fun H1 e Q q =>
  ha H1 e _ fun H2 e2 => ⟨p, ns, rfl, ex_l (e.trans e2) hp, q H2 e2⟩
theorem ev_sumN {ns : List Int} (ha : EvL ta σ H (ns.map V.int)) : Ev (tCB (rSum K) (tCons ta tNil)) σ H (.int ns.sum) := fun H1 e Q q =>
  ha H1 e _ fun p H2 _ e2 hp => ⟨p, ns, rfl, sq_of hp, q H2 e2⟩
theorem ev_maxL {p : Addr} {ns : List Int} {m : Int} (ha : Ev ta σ H (.ref p)) (hp : SqL K H p (ns.map V.int)) (h1 : m ∈ ns) (h2 : ∀ y ∈ ns, y ≤ m) : Ev (tCB (rMax K) (tCons ta tNil)) σ H (.int m) := fun H1 e Q q =>
  ha H1 e _ fun H2 e2 => ⟨p, ns, rfl, ex_l (e.trans e2) hp, List.length_pos_of_mem h1, fun m2 g1 g2 => by
    have : m2 = m := Int.le_antisymm (h2 _ g1) (g2 _ h1)
    rw [this]
    exact q H2 e2⟩
theorem ev_minN {ns : List Int} {m : Int} (ha : EvL ta σ H (ns.map V.int)) (h1 : m ∈ ns) (h2 : ∀ y ∈ ns, m ≤ y) : Ev (tCB (rMin K) (tCons ta tNil)) σ H (.int m) := fun H1 e Q q =>
  ha H1 e _ fun p H2 _ e2 hp => ⟨p, ns, rfl, sq_of hp, List.length_pos_of_mem h1, fun m2 g1 g2 => by
    have : m2 = m := Int.le_antisymm (g2 _ h1) (h2 _ g1)
    rw [this]
    exact q H2 e2⟩
theorem ev_maxN {ns : List Int} {m : Int} (ha : EvL ta σ H (ns.map V.int)) (h1 : m ∈ ns) (h2 : ∀ y ∈ ns, y ≤ m) : Ev (tCB (rMax K) (tCons ta tNil)) σ H (.int m) := fun H1 e Q q =>
  ha H1 e _ fun p H2 _ e2 hp => ⟨p, ns, rfl, sq_of hp, List.length_pos_of_mem h1, fun m2 g1 g2 => by
    have : m2 = m := Int.le_antisymm (h2 _ g1) (g2 _ h1)
    rw [this]
    exact q H2 e2⟩
/-- a, b = divmod(e, f) -/
theorem q_divmod {D : Ends} {tz : TS} {x y : Nat} {i j : Int} (ha : Ev ta σ H (.int i)) (hb : Ev tb σ H (.int j)) (hc : CDivP i j) (k : ∀ H1, Ex H H1 → tz D ((σ.set x (some (.int (i / j)))).set y (some (.int (i % j)))) H1) :
    tSeq (tAsg (tCB (fun xs H Q => ∃ i j, xs = [.int i, .int j] ∧ CDivP i j ∧ ∀ p, H p = none → Q (.ref p) (upd H p (.tup [.int (i / j), .int (i % j)]))) (tCons ta (tCons tb tNil))) (gTup K 2 (gCons (gName x) (gCons (gName y) gNil)))) tz D σ H :=
  ha H (Ex.refl H) _ fun H2 e2 => hb H2 e2 _ fun H3 e3 => ⟨i, j, rfl, hc, fun p np => ⟨p, _, rfl, st_of upd_same, rfl, _, _, rfl, _, _, rfl, rfl, k _ ((e2.trans e3).trans (Ex.new np))⟩⟩
theorem cdivp_of {i j : Int} {b : Nat} (hj : 0 < j) (h : i.natAbs < 2 ^ b) (hb : b ≤ 4000) : CDivP i j := divp_ok hj (by have := PyProof.Rows.intBits_le h; omega)
theorem el_rot {l : Addr} {ls : List Int} {f : Nat} {tx ty : TE} (ha : Ev ta σ H (.ref l)) (hl : SqL K H l (ls.map V.int)) (hx : Ev tx σ H (.int (f : Int))) (hy : Ev ty σ H (.int (f : Int))) (hz : ls.length ≤ 1000) :
    EvL (tOp rCat (tSl (rSlL K) ta (tPart tx) tNoPart) (tSl (rSlL K) ta tNoPart (tPart ty))) σ H ((rotI ls f).map V.int) := by
  have e1 : cutV (ls.map V.int) (some (f : Int)) none = (ls.drop f).map V.int := by rw [cut_from (by omega), Int.toNat_natCast, List.map_drop]
  have e2 : cutV (ls.map V.int) none (some (f : Int)) = (ls.take f).map V.int := by rw [cut_to (by omega), Int.toNat_natCast, List.map_take]
  have h := el_cat2 (el_sl ha (eo_some hx) eo_none hl) (el_sl ha eo_none (eo_some hy) hl) (by rw [e1, e2, List.length_map, List.length_map, List.length_drop, List.length_take]; omega)
  rw [e1, e2, ← List.map_append] at h
  exact h
end
/-! ### what is taken on the days of a ring -/
def TakesOk (n : Int) (ps : List (Int × Int)) : Prop := ∀ p ∈ ps, 0 ≤ p.1 ∧ p.1 ≤ p.2 ∧ p.2 ≤ n
structure Ring (n : Int) (ps : List (Int × Int)) : Prop where
  one : 1 ≤ ps.length
  six : ps.length ≤ 6
  ok : TakesOk n ps
  n1 : 1 ≤ n
  np : Pw 100 n
def leastsOf (ps : List (Int × Int)) : List Int := ps.map (·.1)
theorem Ring.nn {n : Int} {ps : List (Int × Int)} (r : Ring n ps) : ∀ x ∈ leastsOf ps, 0 ≤ x := fun x hx => by
  obtain ⟨p, hp, rfl⟩ := List.mem_map.mp hx
  exact (r.ok p hp).1
theorem Ring.getOk {n : Int} {ps : List (Int × Int)} (r : Ring n ps) {i : Nat} (h : i < ps.length) : 0 ≤ (ps.getD i (0, 0)).1 ∧ (ps.getD i (0, 0)).1 ≤ (ps.getD i (0, 0)).2 ∧ (ps.getD i (0, 0)).2 ≤ n := by
  rw [List.getD_eq_getElem?_getD, List.getElem?_eq_getElem h]
  exact r.ok _ (List.getElem_mem h)
theorem sum_nn : ∀ {ls : List Int}, (∀ x ∈ ls, 0 ≤ x) → 0 ≤ ls.sum
  | [], _ => Int.le_refl _
  | x :: ls, h => by
    have a := h x List.mem_cons_self
    have b := sum_nn fun y hy => h y (List.mem_cons_of_mem x hy)
    simp only [List.sum_cons]
    omega
def RestIs (ls : List Int) (n : Int) (v : V) : Prop := (ls.sum = 0 → v = .non) ∧ (ls.sum ≠ 0 → ∃ t, v = .int t ∧ IsRest (rowOfI ls) n t ∧ t ≤ 10 ^ 39)
theorem RestIs.same {ls ms : List Int} {n : Int} {u v : V} (nn : ∀ x ∈ ls, 0 ≤ x) (x : RestIs ls n u) (y : RestIs ms n v) (s : ls.sum = 0 ↔ ms.sum = 0) (h : ∀ t, IsRest (rowOfI ms) n t → IsRest (rowOfI ls) n t) : u = v := by
  by_cases z : ls.sum = 0
  · rw [x.1 z, y.1 (s.mp z)]
  · obtain ⟨t, rfl, ht, _⟩ := x.2 z
    obtain ⟨t2, rfl, ht2, _⟩ := y.2 (fun e => z (s.mpr e))
    rw [IsRest.uniq (row_nn nn) ht (h _ ht2)]
theorem RestIs.scal {ls ms : List Int} {n : Int} {u v : V} (x : RestIs ls n u) (y : RestIs ms n v) : scal u v = true := by
  have a : u = .non ∨ ∃ t, u = .int t := by
    by_cases z : ls.sum = 0
    · exact .inl (x.1 z)
    · obtain ⟨t, e, _⟩ := x.2 z
      exact .inr ⟨t, e⟩
  have b : v = .non ∨ ∃ t, v = .int t := by
    by_cases z : ms.sum = 0
    · exact .inl (y.1 z)
    · obtain ⟨t, e, _⟩ := y.2 z
      exact .inr ⟨t, e⟩
  rcases a with rfl | ⟨t, rfl⟩ <;> rcases b with rfl | ⟨t2, rfl⟩ <;> rfl
section
variable {σ : L2.St} {H : Hp} {ta : TE}
theorem ev_intB {b : Bool} (ha : Ev ta σ H (.bl b)) : Ev (tCB (fun xs H Q => (∃ i, xs = [.int i] ∧ Q (.int i) H) ∨ ∃ k, xs = [.bl k] ∧ Q (.int (if k then 1 else 0)) H) (tCons ta tNil)) σ H (.int (if b then 1 else 0)) :=
  ev_cb (ea_cons ha ea_nil) fun H1 _ Q q => .inr ⟨b, rfl, q H1 (Ex.refl H1)⟩
theorem ev_intI {i : Int} (ha : Ev ta σ H (.int i)) : Ev (tCB (fun xs H Q => (∃ i, xs = [.int i] ∧ Q (.int i) H) ∨ ∃ k, xs = [.bl k] ∧ Q (.int (if k then 1 else 0)) H) (tCons ta tNil)) σ H (.int i) :=
  ev_cb (ea_cons ha ea_nil) fun H1 _ Q q => .inl ⟨i, rfl, q H1 (Ex.refl H1)⟩
end
theorem as_ptK {X : Cx} {e : Expr} {t t' : TT} (h : PT X e t) (q : t = t') : PT X e t' := q ▸ h
theorem row_ps {ps : List (Int × Int)} {i : Nat} (h : 0 < ps.length) : rowOfI (leastsOf ps) i = (ps.getD (i % ps.length) (0, 0)).1 := by
  unfold rowOfI leastsOf
  have lt := Nat.mod_lt i h
  rw [List.length_map, List.getD_eq_getElem?_getD, List.getElem?_map, List.getD_eq_getElem?_getD, List.getElem?_eq_getElem lt]
  rfl
/-! ### rings that are turned round, told twice, told otherwise -/
theorem row_rot {ls : List Int} (h : 0 < ls.length) (k : Nat) : rowOfI (rotI ls 1) k = rowOfI ls (k + 1) := by
  have l := rot_len (ls := ls) (f := 1) h
  have lt := Nat.mod_lt k h
  show (rotI ls 1).getD (k % (rotI ls 1).length) 0 = _
  rw [l, List.getD_eq_getElem?_getD]
  by_cases h1 : 1 < ls.length
  · rw [rot_get h1 lt]
    show rowOfI ls (1 + k % ls.length) = rowOfI ls (k + 1)
    unfold rowOfI
    rw [Nat.add_mod_mod, Nat.add_comm 1 k]
  · have e : ls.length = 1 := by omega
    obtain ⟨x, rfl⟩ : ∃ x, ls = [x] := List.length_eq_one_iff.mp e
    unfold rowOfI
    simp [rotI, Nat.mod_one]
theorem rest_rot {ls : List Int} {n t : Int} (h : 0 < ls.length) (r : IsRest (rowOfI (rotI ls 1)) n t) : IsRest (rowOfI ls) n t := by
  have key : ∀ b k, sumTo (rowOfI (rotI ls 1)) b k = sumTo (rowOfI ls) (b + 1) k := fun b k => sumTo_cong fun i _ => by
    rw [row_rot h]
    congr 1
    omega
  refine ⟨r.nn, ?_, fun b => ?_⟩
  · obtain ⟨b, hb⟩ := r.some
    exact ⟨b + 1, by rw [← key]; exact hb⟩
  · have q := r.all (b + (ls.length - 1))
    rw [key] at q
    have e : sumTo (rowOfI ls) (b + (ls.length - 1) + 1) (t.toNat + 1) = sumTo (rowOfI ls) b (t.toNat + 1) := sumTo_cong fun i _ => by
      have e2 : b + (ls.length - 1) + 1 + i = b + i + ls.length := by omega
      rw [e2, row_add]
    rw [e] at q
    exact q
theorem rot_sum1 (ls : List Int) : (rotI ls 1).sum = ls.sum := by
  unfold rotI
  rw [List.sum_append]
  have := congrArg List.sum (List.take_append_drop 1 ls)
  rw [List.sum_append] at this
  omega
theorem row_twice (ls : List Int) (k : Nat) : rowOfI (ls ++ ls) k = rowOfI ls k := by
  unfold rowOfI
  by_cases h : 0 < ls.length
  · have l : (ls ++ ls).length = 2 * ls.length := by rw [List.length_append]; omega
    rw [l, List.getD_eq_getElem?_getD, List.getD_eq_getElem?_getD]
    have lt : k % (2 * ls.length) < 2 * ls.length := Nat.mod_lt _ (by omega)
    have e : k % ls.length = k % (2 * ls.length) % ls.length := by rw [Nat.mod_mod_of_dvd _ (Nat.dvd_mul_left ..)]
    rw [e]
    generalize k % (2 * ls.length) = r at lt
    by_cases z : r < ls.length
    · rw [List.getElem?_append_left z, Nat.mod_eq_of_lt z]
    · have e2 : r % ls.length = r - ls.length := by rw [Nat.mod_eq_sub_mod (by omega), Nat.mod_eq_of_lt (by omega)]
      rw [List.getElem?_append_right (by omega), e2]
  · have : ls = [] := List.eq_nil_of_length_eq_zero (by omega)
    subst this
    rfl
theorem rest_twice {ls : List Int} {n t : Int} (r : IsRest (rowOfI (ls ++ ls)) n t) : IsRest (rowOfI ls) n t := by
  have e : rowOfI (ls ++ ls) = rowOfI ls := funext fun k => row_twice ls k
  rw [e] at r
  exact r
/-! ### pairs as data -/
def pairD (p : Int × Int) : PyData := .tuple [.int p.1, .int p.2]
theorem Prs.sel {K : PySem.W.Frag} {H : Hp} {xs : List V} {ps : List (Int × Int)} (h : Prs H xs ps) : ∀ {is : List Nat}, (∀ i ∈ is, i < ps.length) → DpAll K H (is.map fun i => xs.getD i .non) (is.map fun i => pairD (ps.getD i (0, 0)))
  | [], _ => .nil
  | i :: is, hi => by
    obtain ⟨p, e, hp⟩ := h.at (hi i List.mem_cons_self)
    refine .cons ?_ (h.sel fun j hj => hi j (List.mem_cons_of_mem _ hj))
    show Dp K H (xs.getD i .non) (pairD (ps.getD i (0, 0)))
    rw [List.getD_eq_getElem?_getD, e]
    exact .tup (.inl hp) (.cons (.int _) (.cons (.int _) .nil))
theorem pairs_lay : ∀ qs : List (Int × Int), PyData.canLayAll0 (qs.map pairD) = true ∧ PyData.depthAll (qs.map pairD) ≤ 1
  | [] => ⟨rfl, Nat.zero_le _⟩
  | q :: qs => by
    obtain ⟨a, b⟩ := pairs_lay qs
    refine ⟨by simp [PyData.canLayAll0, PyData.canLay0, pairD, a], ?_⟩
    have z : PyData.depth (pairD q) ≤ 1 := by simp [pairD, PyData.depth, PyData.depthAll]
    show max (PyData.depth (pairD q)) (PyData.depthAll (qs.map pairD)) ≤ 1
    exact Nat.max_le.mpr ⟨z, b⟩
theorem pairs_shaped (qs : List (Int × Int)) : SeqAt.shaped (.list (qs.map pairD)) = true := by
  obtain ⟨a, b⟩ := pairs_lay qs
  show (PyData.canLayAll0 (qs.map pairD) && decide (PyData.depthAll (qs.map pairD) + 1 ≤ 64)) = true
  rw [a, Bool.true_and]
  exact decide_eq_true (by omega)
theorem eqv_nil : ∀ ds : List PyData, PyData.eqv (.list ds) (.list []) = ds.isEmpty
  | [] => by decide +kernel
  | d :: ds => by simp [PyData.eqv, PyData.eqvAll]
theorem sel_nil {n : Int} {ps : List (Int × Int)} (R : Ring n ps) : ((List.range ps.length).filter fun i => decide ((ps.getD i (0, 0)).1 > 0)).isEmpty = decide ((leastsOf ps).sum = 0) := by
  have zero : ∀ {ls : List Int}, (∀ x ∈ ls, 0 ≤ x) → (ls.sum = 0 ↔ ∀ x ∈ ls, x = 0) := by
    intro ls
    induction ls with
    | nil => intro _; simp
    | cons x ls ih =>
      intro h
      have a := h x List.mem_cons_self
      have b := sum_nn fun y hy => h y (List.mem_cons_of_mem x hy)
      have c := ih fun y hy => h y (List.mem_cons_of_mem x hy)
      simp only [List.sum_cons, List.mem_cons, forall_eq_or_imp]
      constructor
      · intro e
        exact ⟨by omega, c.mp (by omega)⟩
      · intro ⟨e, r⟩
        have := c.mpr r
        omega
  by_cases z : (leastsOf ps).sum = 0
  · rw [decide_eq_true z]
    rw [List.isEmpty_iff, List.filter_eq_nil_iff]
    intro i hi
    have hlt := List.mem_range.mp hi
    have := (zero R.nn).mp z (ps.getD i (0, 0)).1 (List.mem_map.mpr ⟨ps.getD i (0, 0), by rw [List.getD_eq_getElem?_getD, List.getElem?_eq_getElem hlt]; exact List.getElem_mem hlt, rfl⟩)
    have g : ¬ (decide ((ps.getD i (0, 0)).1 > 0)) = true := by
      rw [this]
      decide
    exact g
  · rw [decide_eq_false z]
    cases e : ((List.range ps.length).filter fun i => decide ((ps.getD i (0, 0)).1 > 0)).isEmpty with
    | false => rfl
    | true =>
      exfalso
      apply z
      rw [List.isEmpty_iff, List.filter_eq_nil_iff] at e
      refine (zero R.nn).mpr fun x hx => ?_
      obtain ⟨p, hp, rfl⟩ := List.mem_map.mp hx
      obtain ⟨i, hi, rfl⟩ := List.getElem_of_mem hp
      have := e i (List.mem_range.mpr hi)
      rw [List.getD_eq_getElem?_getD, List.getElem?_eq_getElem hi] at this
      have o := (R.ok _ hp).1
      simp at this
      omega
section
variable {σ : L2.St} {H : Hp} {te : TE}
theorem ev_notN {x : V} (ha : Ev te σ H x) : Ev (tOp (fun x y H Q => y = .non ∧ Q (.bl (!decide (x = .non))) H) te (tC .non)) σ H (.bl (!decide (x = .non))) :=
  ev_op ha ev_c fun H1 _ Q q => ⟨rfl, q H1 (Ex.refl H1)⟩
theorem ev_isN {x : V} (ha : Ev te σ H x) : Ev (tOp (fun x y H Q => y = .non ∧ Q (.bl (decide (x = .non))) H) te (tC .non)) σ H (.bl (decide (x = .non))) :=
  ev_op ha ev_c fun H1 _ Q q => ⟨rfl, q H1 (Ex.refl H1)⟩
theorem el_rg1 {n : Int} (h : Ev te σ H (.int n)) (h0 : 0 ≤ n) (h1 : n ≤ 100000) : EvL (tLstRg (tRg1 te)) σ H (rgV 0 n) := fun H1 e Q q =>
  h H1 e _ fun H2 e2 => ⟨n, rfl, RgOk.of_le (by omega) (by omega) (by omega) (by omega), fun r nr => q r _ (fresh_back e2 nr) (e2.trans (Ex.new nr)) upd_same⟩
end
/-- numbers told one by one -/
theorem given_ints (n : Nat) (f : Nat → Int) : given n (fun _ => true) (fun i => V.int (f i)) = ((List.range n).map f).map V.int := by
  rw [given_true, List.map_map]
  rfl
theorem range_getD (ps : List (Int × Int)) (g : Int × Int → Int) : (List.range ps.length).map (fun i => g (ps.getD i (0, 0))) = ps.map g := by
  refine List.ext_getElem? fun i => ?_
  rw [List.getElem?_map, List.getElem?_map]
  by_cases h : i < ps.length
  · rw [List.getElem?_range h, List.getElem?_eq_getElem h]
    show some (g (ps.getD i (0, 0))) = some (g ps[i])
    rw [List.getD_eq_getElem?_getD, List.getElem?_eq_getElem h]
    rfl
  · rw [List.getElem?_eq_none (by rw [List.length_range]; omega), List.getElem?_eq_none (by omega)]
    rfl
theorem range_getP (ps : List (Int × Int)) (g : Int × Int → Int × Int) : (List.range ps.length).map (fun i => g (ps.getD i (0, 0))) = ps.map g := by
  refine List.ext_getElem? fun i => ?_
  rw [List.getElem?_map, List.getElem?_map]
  by_cases h : i < ps.length
  · rw [List.getElem?_range h, List.getElem?_eq_getElem h]
    show some (g (ps.getD i (0, 0))) = some (g ps[i])
    rw [List.getD_eq_getElem?_getD, List.getElem?_eq_getElem h]
    rfl
  · rw [List.getElem?_eq_none (by rw [List.length_range]; omega), List.getElem?_eq_none (by omega)]
    rfl
end PW
/-! G3: shares, leads of rings; greatest divisors -/
namespace PW
open PySem PySem.Spec PyProof.Rows L2 Evl
section
variable {K : PySem.W.Frag} {σ : L2.St} {H : Hp} {tl te ta tb : TE}
/-- [a for a, b in takes] -/
theorem el_pairs {i j e : Nat} {t : Addr} {xs : List V} {ps : List (Int × Int)} (g : Int × Int → Int) (h : Ev tl σ H (.ref t)) (hx : Rd H t (.tup xs)) (pr : Prs H xs ps) (hz : ps.length ≤ 1000)
    (hw : ∀ x y, wipe (((wipe σ [i, j]).set i (some x)).set j (some y)) [i, j] = wipe σ [i, j]) (hv : ∀ x y : Int, (((wipe σ [i, j]).set i (some (.int x))).set j (some (.int y)))[e]? = some (some (.int (g (x, y))))) :
    EvL (tLc (iTup K tl) (gTup K 2 (gCons (gName i) (gCons (gName j) gNil))) tYes (tVar e) [i, j]) σ H ((ps.map g).map V.int) := by
  have len := pr.len
  refine el_is (el_lcTG (xs := xs) (fun _ => true) (fun k => .int (g (ps.getD k (0, 0)))) (fun k => ((wipe σ [i, j]).set i (some (.int (ps.getD k (0, 0)).1))).set j (some (.int (ps.getD k (0, 0)).2))) h (.inl hx) (by omega)
    (fun k x H3 R3 e3 hx r => ?_) (fun k x _ => hw _ _) (fun _ _ _ _ _ => et_yes) (fun k x H3 e3 hx _ => ev_var (hv _ _))) ?_
  · obtain ⟨q, ex, hq⟩ := pr.get hx
    exact ⟨q, _, ex, .inl (ex_rd e3 hq), rfl, _, _, rfl, _, _, rfl, rfl, r⟩
  · rw [given_ints, len, range_getD ps g]
/-- [.. p .. for p in takes], a number for each -/
theorem el_each {j : Nat} {t : Addr} {xs : List V} {ps : List (Int × Int)} (g : Int × Int → Int) (h : Ev tl σ H (.ref t)) (hx : Rd H t (.tup xs)) (pr : Prs H xs ps) (hz : ps.length ≤ 1000)
    (hw : ∀ x, wipe ((wipe σ [j]).set j (some x)) [j] = wipe σ [j]) (hv : ∀ H1 q a b, Ex H H1 → Rd H1 q (.tup [.int a, .int b]) → Ev te ((wipe σ [j]).set j (some (.ref q))) H1 (.int (g (a, b)))) :
    EvL (tLc (iTup K tl) (gName j) tYes te [j]) σ H ((ps.map g).map V.int) := by
  have len := pr.len
  refine el_is (el_lcTG (xs := xs) (fun _ => true) (fun k => .int (g (ps.getD k (0, 0)))) (fun k => (wipe σ [j]).set j (some (xs.getD k .non))) h (.inl hx) (by omega)
    (fun k x H3 R3 e3 hx r => ?_) (fun k x _ => hw _) (fun _ _ _ _ _ => et_yes) (fun k x H3 e3 hx _ => ?_)) ?_
  · rw [List.getD_eq_getElem?_getD, hx] at r
    exact r
  · obtain ⟨q, ex, hq⟩ := pr.get hx
    subst ex
    have := hv H3 q _ _ e3 (ex_rd e3 hq)
    rw [List.getD_eq_getElem?_getD, hx]
    exact this
  · rw [given_ints, len, range_getD ps g]
/-- [p for p in takes if ..] -/
theorem el_some {j : Nat} {tt : TT} {t : Addr} {xs : List V} {ps : List (Int × Int)} (f : Int × Int → Bool) (h : Ev tl σ H (.ref t)) (hx : Rd H t (.tup xs)) (pr : Prs H xs ps) (hz : ps.length ≤ 1000)
    (hw : ∀ x, wipe ((wipe σ [j]).set j (some x)) [j] = wipe σ [j]) (hj : ∀ x, ((wipe σ [j]).set j (some x))[j]? = some (some x)) (hv : ∀ H1 q a b, Ex H H1 → Rd H1 q (.tup [.int a, .int b]) → EvT tt ((wipe σ [j]).set j (some (.ref q))) H1 (f (a, b))) :
    EvL (tLc (iTup K tl) (gName j) tt (tVar j) [j]) σ H (given xs.length (fun k => f (ps.getD k (0, 0))) (fun k => xs.getD k .non)) := by
  have len := pr.len
  refine el_lcTG (xs := xs) (fun k => f (ps.getD k (0, 0))) (fun k => xs.getD k .non) (fun k => (wipe σ [j]).set j (some (xs.getD k .non))) h (.inl hx) (by omega)
    (fun k x H3 R3 e3 hx r => ?_) (fun k x _ => hw _) (fun k x H3 e3 hx => ?_) (fun k x H3 e3 hx _ => ev_var (hj _))
  · rw [List.getD_eq_getElem?_getD, hx] at r
    exact r
  · obtain ⟨q, ex, hq⟩ := pr.get hx
    subst ex
    have := hv H3 q _ _ e3 (ex_rd e3 hq)
    rw [List.getD_eq_getElem?_getD, hx]
    exact this
theorem el_nil : EvL (tLst tNil) σ H [] := el_lst ea_nil (Nat.zero_le _)
/-- a selection compared with [] -/
theorem sel_ne {xs : List V} {ps : List (Int × Int)} {f : Int × Int → Bool} (pr : Prs H xs ps) (ha : EvL ta σ H (given xs.length (fun k => f (ps.getD k (0, 0))) (fun k => xs.getD k .non))) :
    Ev (tOp (rNeD K) ta (tLst tNil)) σ H (.bl (!((List.range ps.length).filter fun k => f (ps.getD k (0, 0))).isEmpty)) := by
  have len := pr.len
  refine ev_opLL ha el_nil (fun a b H4 ha hb e4 H5 e5 Q5 q5 => ?_)
  have fl : ∀ i ∈ (List.range xs.length).filter (fun k => f (ps.getD k (0, 0))), i < ps.length := fun i hi => by
    have := List.mem_range.mp (List.mem_filter.mp hi).1
    omega
  refine ⟨_, .list [], .lst (sq_of (e5 _ _ ha)) ((pr.keep (KeepT.ex (e4.trans e5))).sel fl), .lst (sq_of (e5 _ _ hb)) .nil, ?_, by decide +kernel, ?_⟩
  · rw [show (List.map (fun i => pairD (ps.getD i (0, 0))) ((List.range xs.length).filter fun k => f (ps.getD k (0, 0)))) = (((List.range xs.length).filter fun k => f (ps.getD k (0, 0))).map fun i => ps.getD i (0, 0)).map pairD by rw [List.map_map]; rfl]
    exact pairs_shaped _
  · rw [eqv_nil, List.isEmpty_map, len]
    exact q5 H5 (Ex.refl H5)
theorem ev_gcd {a b : Int} (ha : Ev ta σ H (.int a)) (hb : Ev tb σ H (.int b)) : Ev (tCB rGcd (tCons ta (tCons tb tNil))) σ H (.int ((Nat.gcd a.natAbs b.natAbs : Nat) : Int)) :=
  ev_cb (ea_cons ha (ea_cons hb ea_nil)) fun H1 _ Q q => ⟨a, b, rfl, q H1 (Ex.refl H1)⟩
end
theorem s_retR {D : Ends} {σ : L2.St} {H : Hp} {te : TE} {R : Hp → V → Prop} (h : EvR te σ H R) (k : ∀ v H1, Ex H H1 → R H1 v → D.rt v H1) : tRet te D σ H := h H (Ex.refl H) _ fun v H1 e r => k v H1 e r
theorem q_parE {D : Ends} {σ : L2.St} {H : Hp} {ta tb : TE} {tz : TS} {i j : Nat} {x y : V} (ha : Ev ta σ H x) (hb : Ev tb σ H y) (k : ∀ H1, Ex H H1 → tz D ((σ.set i (some x)).set j (some y)) H1) : tSeq (tPar i j (tCons ta (tCons tb tNil))) tz D σ H :=
  ha H (Ex.refl H) _ fun H1 e1 => hb H1 e1 _ fun H2 e2 => ⟨x, y, rfl, k H2 (e1.trans e2)⟩
theorem s_parE {D : Ends} {σ : L2.St} {H : Hp} {ta tb : TE} {i j : Nat} {x y : V} (ha : Ev ta σ H x) (hb : Ev tb σ H y) (k : ∀ H1, Ex H H1 → D.nx ((σ.set i (some x)).set j (some y)) H1) : tPar i j (tCons ta (tCons tb tNil)) D σ H :=
  ha H (Ex.refl H) _ fun H1 e1 => hb H1 e1 _ fun H2 e2 => ⟨x, y, rfl, k H2 (e1.trans e2)⟩
theorem q_parR {D : Ends} {σ : L2.St} {H : Hp} {ta tb : TE} {tz : TS} {i j : Nat} {R1 R2 : Hp → V → Prop} (m : Mono R1) (ha : EvR ta σ H R1) (hb : EvR tb σ H R2) (k : ∀ v u H1, Ex H H1 → R1 H1 v → R2 H1 u → tz D ((σ.set i (some v)).set j (some u)) H1) : tSeq (tPar i j (tCons ta (tCons tb tNil))) tz D σ H :=
  ha H (Ex.refl H) _ fun v H1 e1 r1 => hb H1 e1 _ fun u H2 e2 r2 => ⟨v, u, rfl, k v u H2 (e1.trans e2) (m _ _ _ e2 r1) r2⟩
theorem tup_dat {H : Hp} {v : V} {ds : List PyData} (h : Dat H v (.tuple ds)) : ∃ p xs, v = .ref p ∧ Rd H p (.tup xs) ∧ Dats H xs ds := by
  cases h with
  | tup h r => exact ⟨_, _, rfl, h, r⟩
theorem lst_dat {H : Hp} {v : V} {ds : List PyData} (h : Dat H v (.list ds)) : ∃ p xs, v = .ref p ∧ Rd H p (.lst xs) ∧ Dats H xs ds := by
  cases h with
  | lst h r => exact ⟨_, _, rfl, h, r⟩
/-! ### what is asked of a ring -/
def mostsOf (ps : List (Int × Int)) : List Int := ps.map (·.2)
def gcdI (a b : Int) : Int := ((Nat.gcd a.natAbs b.natAbs : Nat) : Int)
theorem leasts_drop {ps : List (Int × Int)} {i : Nat} (h : i < ps.length) : (leastsOf ps).drop i = (ps.getD i (0, 0)).1 :: (leastsOf ps).drop (i + 1) := by
  unfold leastsOf
  rw [← List.map_drop, List.drop_eq_getElem_cons h, List.map_cons, List.map_drop, List.getD_eq_getElem?_getD, List.getElem?_eq_getElem h]
  rfl
theorem gcd_pos {a b : Int} (h : 0 < b) : 0 < gcdI a b := by
  unfold gcdI
  have := Nat.gcd_pos_of_pos_right a.natAbs (show 0 < b.natAbs by omega)
  omega
theorem gcd_le {a b : Int} (h : 0 < b) : gcdI a b ≤ b := by
  unfold gcdI
  have := Nat.le_of_dvd (show 0 < b.natAbs by omega) (Nat.gcd_dvd_right a.natAbs b.natAbs)
  omega
def lowD (a b : Int) : PyData := .tuple [.int (a / gcdI a b), .int (b / gcdI a b)]
def sharesD (n : Int) (ps : List (Int × Int)) : PyData := .tuple [lowD (leastsOf ps).sum (n * (ps.length : Int)), lowD (mostsOf ps).sum (n * (ps.length : Int))]
def hitI (g p q : Int) : List Int → Int → Bool
  | [], _ => false
  | x :: xs, t => if (q - t) / g > (p - t) / g then true else hitI g p q xs (t + x)
def leadI (n : Int) (ps : List (Int × Int)) (p q : Int) : Int := if p > q then 0 else if (leastsOf ps).sum < (mostsOf ps).sum then 1 else if hitI (gcdI (leastsOf ps).sum n) p q (leastsOf ps) 0 then 1 else 0
theorem Ring.mostPw {n : Int} {ps : List (Int × Int)} (R : Ring n ps) : 0 ≤ (mostsOf ps).sum ∧ (mostsOf ps).sum ≤ 6 * n ∧ 0 ≤ (leastsOf ps).sum ∧ (leastsOf ps).sum ≤ (mostsOf ps).sum := by
  have n1 := R.n1
  have key : ∀ {qs : List (Int × Int)}, (∀ p ∈ qs, 0 ≤ p.1 ∧ p.1 ≤ p.2 ∧ p.2 ≤ n) → 0 ≤ (mostsOf qs).sum ∧ (mostsOf qs).sum ≤ (qs.length : Int) * n ∧ 0 ≤ (leastsOf qs).sum ∧ (leastsOf qs).sum ≤ (mostsOf qs).sum := by
    intro qs
    induction qs with
    | nil => intro _; simp [mostsOf, leastsOf]
    | cons x qs ih =>
      intro h
      obtain ⟨a, b, c, d⟩ := ih fun y hy => h y (List.mem_cons_of_mem _ hy)
      obtain ⟨x1, x2, x3⟩ := h x List.mem_cons_self
      have e1 : (mostsOf (x :: qs)).sum = x.2 + (mostsOf qs).sum := by simp [mostsOf]
      have e2 : (leastsOf (x :: qs)).sum = x.1 + (leastsOf qs).sum := by simp [leastsOf]
      have e3 : (((x :: qs).length : Nat) : Int) * n = (qs.length : Int) * n + n := by
        rw [List.length_cons, Int.natCast_add, Int.add_mul]
        simp
      rw [e1, e2, e3]
      omega
  obtain ⟨a, b, c, d⟩ := key R.ok
  have l : (ps.length : Int) * n ≤ 6 * n := Int.mul_le_mul_of_nonneg_right (by have := R.six; omega) (by omega)
  exact ⟨a, by omega, c, d⟩
/-- pairs of one number each: no two sums -/
theorem sums_lt {n : Int} {ps : List (Int × Int)} (R : Ring n ps) : ((List.range ps.length).filter fun k => decide ((ps.getD k (0, 0)).1 < (ps.getD k (0, 0)).2)).isEmpty = !decide ((leastsOf ps).sum < (mostsOf ps).sum) := by
  have key : ∀ {qs : List (Int × Int)}, (∀ p ∈ qs, p.1 ≤ p.2) → ((leastsOf qs).sum ≤ (mostsOf qs).sum ∧ ((leastsOf qs).sum < (mostsOf qs).sum ↔ ∃ p ∈ qs, p.1 < p.2)) := by
    intro qs
    induction qs with
    | nil => intro _; simp [mostsOf, leastsOf]
    | cons x qs ih =>
      intro h
      obtain ⟨b, c⟩ := ih fun y hy => h y (List.mem_cons_of_mem _ hy)
      have x1 := h x List.mem_cons_self
      have e1 : (mostsOf (x :: qs)).sum = x.2 + (mostsOf qs).sum := by simp [mostsOf]
      have e2 : (leastsOf (x :: qs)).sum = x.1 + (leastsOf qs).sum := by simp [leastsOf]
      rw [e1, e2]
      refine ⟨by omega, ?_⟩
      simp only [List.mem_cons, exists_eq_or_imp, ← c]
      omega
  have k := key (qs := ps) fun p hp => (R.ok p hp).2.1
  by_cases z : (leastsOf ps).sum < (mostsOf ps).sum
  · rw [decide_eq_true z]
    obtain ⟨p, hp, hlt⟩ := k.2.mp z
    obtain ⟨i, hi, rfl⟩ := List.getElem_of_mem hp
    rw [Bool.not_true, List.isEmpty_eq_false_iff]
    intro e
    have := List.filter_eq_nil_iff.mp e i (List.mem_range.mpr hi)
    rw [List.getD_eq_getElem?_getD, List.getElem?_eq_getElem hi] at this
    exact this (decide_eq_true hlt)
  · rw [decide_eq_false z, Bool.not_false, List.isEmpty_iff, List.filter_eq_nil_iff]
    intro i hi
    have hlt := List.mem_range.mp hi
    rw [List.getD_eq_getElem?_getD, List.getElem?_eq_getElem hlt]
    intro w
    exact z (k.2.mpr ⟨_, List.getElem_mem hlt, of_decide_eq_true w⟩)
/-! ### the law's own order of totals -/
def hitL (g p q : Int) : List Int → Int → Bool
  | [], _ => false
  | x :: xs, t => if (q - (t + x)) / g > (p - (t + x)) / g then true else hitL g p q xs (t + x)
theorem hit_shift {g p q : Int} (g0 : 0 < g) (k t : Int) : (decide ((q - (t + g * k)) / g > (p - (t + g * k)) / g)) = decide ((q - t) / g > (p - t) / g) := by
  have e : ∀ x : Int, (x - (t + g * k)) / g = (x - t) / g - k := fun x => by
    have : x - (t + g * k) = (x - t) + g * (-k) := by rw [Int.mul_neg]; omega
    rw [this, Int.add_mul_ediv_left _ _ (by omega)]
    omega
  rw [e, e]
  by_cases z : (q - t) / g > (p - t) / g
  · rw [decide_eq_true z, decide_eq_true (by omega)]
  · rw [decide_eq_false z, decide_eq_false (by omega)]
theorem hitI_cons (g p q x : Int) (xs : List Int) (t : Int) : hitI g p q (x :: xs) t = (decide ((q - t) / g > (p - t) / g) || hitI g p q xs (t + x)) := by
  rw [hitI]
  by_cases z : (q - t) / g > (p - t) / g
  · rw [if_pos z, decide_eq_true z, Bool.true_or]
  · rw [if_neg z, decide_eq_false z, Bool.false_or]
theorem hitL_cons (g p q x : Int) (xs : List Int) (t : Int) : hitL g p q (x :: xs) t = (decide ((q - (t + x)) / g > (p - (t + x)) / g) || hitL g p q xs (t + x)) := by
  rw [hitL]
  by_cases z : (q - (t + x)) / g > (p - (t + x)) / g
  · rw [if_pos z, decide_eq_true z, Bool.true_or]
  · rw [if_neg z, decide_eq_false z, Bool.false_or]
/-- ahead of each row, or behind it: the sum of all is a multiple -/
theorem hit_same {g p q : Int} (g0 : 0 < g) : ∀ (xs : List Int) (t : Int),
    (hitI g p q xs t || decide ((q - (t + xs.sum)) / g > (p - (t + xs.sum)) / g)) = (decide ((q - t) / g > (p - t) / g) || hitL g p q xs t)
  | [], t => by
    rw [hitI, hitL, List.sum_nil, Int.add_zero, Bool.false_or, Bool.or_false]
  | x :: xs, t => by
    have ih := hit_same (p := p) (q := q) g0 xs (t + x)
    have e : t + (x :: xs).sum = t + x + xs.sum := by simp only [List.sum_cons]; omega
    rw [e, hitI_cons, hitL_cons, Bool.or_assoc, ih]
theorem hit_law {g p q : Int} (g0 : 0 < g) {xs : List Int} (h : g ∣ xs.sum) (ne : xs ≠ []) : hitL g p q xs 0 = hitI g p q xs 0 := by
  have a := hit_same (p := p) (q := q) g0 xs 0
  obtain ⟨k, hk⟩ := h
  have b := hit_shift (p := p) (q := q) g0 k 0
  rw [hk] at a
  rw [b] at a
  -- both sides hold where the first total does
  by_cases z : (q - 0) / g > (p - 0) / g
  · have z1 : hitI g p q xs 0 = true := by
      cases xs with
      | nil => exact absurd rfl ne
      | cons x xs => simp only [hitI]; rw [if_pos z]
    have z2 : hitL g p q xs 0 = true := by
      have key : ∀ (ys : List Int) (t : Int), ys ≠ [] → (q - (t + ys.sum)) / g > (p - (t + ys.sum)) / g → hitL g p q ys t = true := by
        intro ys
        induction ys with
        | nil => intro t h; exact absurd rfl h
        | cons y ys ih =>
          intro t _ w
          unfold hitL
          split
          · rfl
          · rename_i v
            by_cases e : ys = []
            · subst e
              simp only [List.sum_cons, List.sum_nil, Int.add_zero] at w
              exact absurd w v
            · exact ih (t + y) e (by
                have e2 : t + (y :: ys).sum = t + y + ys.sum := by simp only [List.sum_cons]; omega
                rw [e2] at w
                exact w)
      refine key xs 0 ne ?_
      rw [hk]
      have := of_decide_eq_true (b.trans (decide_eq_true z))
      exact this
    rw [z1, z2]
  · rw [decide_eq_false z, Bool.or_false, Bool.false_or] at a
    exact a.symm
end PW
/-! G4: small rings gone round day by day; divisors; written takes -/
namespace PW
open PySem PySem.Spec PyProof.Rows L2 Evl
section
variable {K : PySem.W.Frag} {σ : L2.St} {H : Hp} {tl te ta tb : TE} {t : TT} {u : TA}
/-- a comprehension over range(a, b) -/
theorem el_lcR2 {ta : TA} {j : Nat} {vs : List Nat} {lo n : Int} (f : Nat → Bool) (v : Nat → V) (h : EvA ta σ H [.int lo, .int n]) (hn : 0 ≤ lo ∧ lo ≤ 40000 ∧ lo ≤ n ∧ n ≤ 40000) (hw : ∀ x, wipe ((wipe σ vs).set j (some x)) vs = wipe σ vs)
    (ht : ∀ (i : Nat) H1, Ex H H1 → lo + (i : Int) < n → EvT t ((wipe σ vs).set j (some (.int (lo + (i : Int))))) H1 (f i)) (he : ∀ (i : Nat) H1, Ex H H1 → lo + (i : Int) < n → f i = true → Ev te ((wipe σ vs).set j (some (.int (lo + (i : Int))))) H1 (v i)) :
    EvL (tLc (iRng2 ta) (gName j) t te vs) σ H (given (n - lo).toNat f v) := fun H0 e Q q => h H0 e _ fun H1 e1 => ⟨lo, n, rfl, ⟨by omega, by omega, by omega, by omega⟩, fun Dl hD =>
  lc_range (lo := lo) (n := (n - lo).toNat) (Cw H1 f v Dl) ⟨hD, Ex.new hD, upd_same⟩ (fun i H' hi p => ⟨hw _, cw_turn p (by omega) (ht i H1 (e.trans e1) (by omega)) (fun hf => he i H1 (e.trans e1) (by omega) hf)⟩) (fun H' p => q Dl H' (fresh_back e1 p.1) (e1.trans p.2.1) p.2.2)⟩
theorem er_pr0 : EvRs tNil σ H (fun H' vs => Prs H' vs []) := ers_nil fun _ _ => .nil
theorem er_pr1 {a b : Int} {ps : List (Int × Int)} (h : EvRs u σ H (fun H' vs => Prs H' vs ps)) : EvRs (tCons (tTup (tCons (tC (.int a)) (tCons (tC (.int b)) tNil))) u) σ H (fun H' vs => Prs H' vs ((a, b) :: ps)) := fun H1 e Q q =>
  (eu_tup (vs := [.int a, .int b]) (ea_cons ev_c (ea_cons ev_c ea_nil)) (by show 2 ≤ 100000; decide) : EvU _ σ H _) H1 e _ fun p H2 np e2 hp => h H2 (e.trans e2) _ fun vs H3 e3 hv => q (.ref p :: vs) H3 (e2.trans e3) (.cons (.inl (e3 _ _ hp)) hv)
theorem er_takes {ps : List (Int × Int)} (h : EvRs u σ H (fun H' vs => Prs H' vs ps)) (hz : ps.length ≤ 100) : EvR (tTup u) σ H (TakesV ps) := fun H1 e Q q =>
  h H1 e _ fun vs H2 e2 hv => ⟨sz_of (by rw [hv.len]; omega), fun p np => q _ _ (e2.trans (Ex.new np)) ⟨p, vs, rfl, .inl upd_same, hv.keep (KeepT.ex (Ex.new np))⟩⟩
end
/-! ### how often a number comes -/
theorem count_is {n q : Int} (n0 : 0 < n) (q0 : 0 ≤ q) (qn : q < n) : ∀ w : Nat, ((((List.range w).filter fun (k : Nat) => decide (V.int ((k : Int) % n) = V.int q)).length : Nat) : Int) = ((w : Int) - q + n - 1) / n
  | 0 => by
    have : ((0 : Nat) : Int) - q + n - 1 = n - 1 - q := by simp; omega
    rw [this, Int.ediv_eq_zero_of_lt (by omega) (by omega)]
    rfl
  | w + 1 => by
    have ih := count_is n0 q0 qn w
    rw [List.range_succ, List.filter_append, List.length_append, Int.natCast_add, ih]
    have a : ((w + 1 : Nat) : Int) - q + n - 1 = ((w : Int) - q + n - 1) + 1 := by simp; omega
    rw [a, div_next n0]
    congr 1
    have e2 : (w : Int) - q + n - 1 + 1 = (w : Int) - q + n := by omega
    rw [e2, Int.add_emod_right]
    have z : (((w : Int) - q) % n = 0) ↔ ((w : Int) % n = q) := by
      have h1 : ((w : Int) - q) % n = ((w : Int) % n - q % n) % n := Int.sub_emod _ _ _
      rw [Int.emod_eq_of_lt q0 qn] at h1
      have a0 := Int.emod_nonneg (w : Int) (by omega : n ≠ 0)
      have a1 := Int.emod_lt_of_pos (w : Int) n0
      constructor
      · intro h0
        rw [h0] at h1
        by_cases c : q ≤ (w : Int) % n
        · rw [Int.emod_eq_of_lt (by omega) (by omega)] at h1
          omega
        · have h2 : ((w : Int) % n - q) % n = ((w : Int) % n - q + n) % n := by rw [Int.add_emod_right]
          rw [h2, Int.emod_eq_of_lt (by omega) (by omega)] at h1
          omega
      · intro h0
        rw [h0, Int.sub_self] at h1
        simpa using h1
    by_cases c : (w : Int) % n = q
    · rw [if_pos (z.mpr c), List.filter_cons, if_pos (decide_eq_true (by rw [c]))]
      rfl
    · rw [if_neg (fun y => c (z.mp y)), List.filter_cons, if_neg (by simpa using c)]
      rfl
/-! ### days alone -/
def Alone (a : Nat → Int) (n : Int) (b t : Nat) : Prop := sumTo a b t ≤ n - 1 ∧ n ≤ sumTo a b (t + 1)
theorem Alone.uniq {a : Nat → Int} {n : Int} {b t u : Nat} (h : ∀ k, 0 ≤ a k) (x : Alone a n b t) (y : Alone a n b u) : t = u := by
  have key : ∀ {t u : Nat}, Alone a n b t → Alone a n b u → ¬ t < u := by
    intro t u x y lt
    have := sumTo_mono h b (j := t + 1) (k := u) (by omega)
    have := x.2
    have := y.1
    omega
  have k1 := key x y
  have k2 := key y x
  omega
open Classical in
noncomputable def aloneOf (a : Nat → Int) (n : Int) (b : Nat) : Nat := if h : ∃ t, Alone a n b t then Classical.choose h else 0
theorem aloneOf_eq {a : Nat → Int} {n : Int} {b t : Nat} (h : ∀ k, 0 ≤ a k) (x : Alone a n b t) : aloneOf a n b = t := by
  unfold aloneOf
  have e : ∃ t, Alone a n b t := ⟨t, x⟩
  rw [dif_pos e]
  exact Alone.uniq h (Classical.choose_spec e) x
/-- some day all are taken -/
theorem alone_some {ls : List Int} {n : Int} (nn : ∀ x ∈ ls, 0 ≤ x) (hm : 0 < ls.length) (hs : 0 < ls.sum) (n1 : 1 ≤ n) (b : Nat) : ∃ t, Alone (rowOfI ls) n b t := by
  have top : n ≤ sumTo (rowOfI ls) b (n.toNat * ls.length + 0) := by
    rw [rounds_sum hm]
    show n ≤ _ + 0
    have : ((n.toNat : Nat) : Int) = n := by omega
    rw [this]
    have := Int.mul_le_mul_of_nonneg_left (show 1 ≤ ls.sum by omega) (show 0 ≤ n by omega)
    omega
  have key : ∀ k, n ≤ sumTo (rowOfI ls) b k → ∃ t, Alone (rowOfI ls) n b t := by
    intro k
    induction k with
    | zero =>
      intro h
      have : sumTo (rowOfI ls) b 0 = 0 := rfl
      omega
    | succ k ih =>
      intro h
      by_cases z : n ≤ sumTo (rowOfI ls) b k
      · exact ih z
      · exact ⟨k, by omega, h⟩
  exact key _ top
/-- the greatest of them is the rest -/
theorem alone_rest {ls : List Int} {n : Int} {d : Int} (nn : ∀ x ∈ ls, 0 ≤ x) (hm : 0 < ls.length) (hs : 0 < ls.sum) (n1 : 1 ≤ n)
    (h1 : ∃ f, f < ls.length ∧ d = (aloneOf (rowOfI ls) n f : Int)) (h2 : ∀ f, f < ls.length → (aloneOf (rowOfI ls) n f : Int) ≤ d) : IsRest (rowOfI ls) n d := by
  obtain ⟨f, hf, hd⟩ := h1
  obtain ⟨t, ht⟩ := alone_some nn hm hs n1 f
  have e := aloneOf_eq (row_nn nn) ht
  rw [e] at hd
  subst hd
  refine ⟨by omega, ⟨f, by rw [Int.toNat_natCast]; exact ht.1⟩, fun b => ?_⟩
  obtain ⟨t2, ht2⟩ := alone_some nn hm hs n1 (b % ls.length)
  have le := h2 (b % ls.length) (Nat.mod_lt _ hm)
  rw [aloneOf_eq (row_nn nn) ht2] at le
  rw [Int.toNat_natCast, sumTo_mod]
  have := sumTo_mono (row_nn nn) (b % ls.length) (j := t2 + 1) (k := t + 1) (by omega)
  have := ht2.2
  omega
section
variable {K : PySem.W.Frag} {σ : L2.St} {H : Hp} {te : TE}
/-- new pairs, one for each number of a range -/
theorem er_lcRP {ta : TA} {j : Nat} {vs : List Nat} {n : Nat} (ps : Nat → Int × Int) (h : EvA ta σ H [.int (n : Int)]) (hz : n ≤ 40000) (hw : ∀ x, wipe ((wipe σ vs).set j (some x)) vs = wipe σ vs)
    (he : ∀ (i : Nat) H1, Ex H H1 → i < n → EvR te ((wipe σ vs).set j (some (.int (i : Int)))) H1 (fun H' y => ∃ p, y = .ref p ∧ Rd H' p (.tup [.int (ps i).1, .int (ps i).2]))) :
    EvR (tLc (iRng1 ta) (gName j) tYes te vs) σ H (fun H' v => ∃ l ys, v = .ref l ∧ H' l = some (.lst ys) ∧ Prs H' ys ((List.range n).map ps)) := fun H0 e Q q => h H0 e _ fun H1 e1 => ⟨(n : Int), rfl, by omega, by omega, fun Dl hD =>
  lc_range (lo := 0) (n := ((n : Nat) : Int).toNat) (fun i H' => Ex H1 H' ∧ ∃ acc, H' Dl = some (.lst acc) ∧ Prs H' acc ((List.range i).map ps)) ⟨Ex.new hD, [], upd_same, .nil⟩
    (fun i H' hi p => ⟨hw _, by
      obtain ⟨p2, acc, p3, p4⟩ := p
      show te ((wipe σ vs).set j (some (.int ((0 : Int) + (i : Nat))))) H' fun y H4 => ∃ acc, H4 Dl = some (.lst acc) ∧ acc.length < sizeLine ∧ Ex H1 (upd H4 Dl (.lst (acc ++ [y]))) ∧ ∃ acc', (upd H4 Dl (.lst (acc ++ [y]))) Dl = some (.lst acc') ∧ Prs (upd H4 Dl (.lst (acc ++ [y]))) acc' ((List.range (i + 1)).map ps)
      rw [Int.zero_add]
      have al := p4.len
      rw [List.length_map, List.length_range] at al
      refine he i H' ((e.trans e1).trans p2) (by omega) H' (Ex.refl H') _ fun y H4 e4 ⟨pp, ey, hp⟩ => ⟨acc, e4 _ _ p3, sz_lt (by omega), Ex.mut (p2.trans e4) hD, acc ++ [y], upd_same, ?_⟩
      have k := keepT_lst (ys := acc ++ [y]) (e4 _ _ p3)
      rw [List.range_succ, List.map_append]
      subst ey
      exact (p4.keep ((KeepT.ex e4).trans k)).app (.cons (k _ _ hp) .nil)⟩)
    (fun H' p => by
      obtain ⟨p2, acc, p3, p4⟩ := p
      rw [Int.toNat_natCast] at p4
      exact q (.ref Dl) H' (e1.trans p2) ⟨Dl, acc, rfl, p3, p4⟩)⟩
end
theorem prs_dats {H : Hp} : ∀ {xs : List V} {ps : List (Int × Int)}, Prs H xs ps → Dats H xs (ps.map pairD)
  | _, _, .nil => .nil
  | _, _, .cons h r => .cons (.tup h (.cons (.int _) (.cons (.int _) .nil))) (prs_dats r)
theorem takes_dat {H : Hp} {ps : List (Int × Int)} {v : V} : TakesV ps H v → Dat H v (.tuple (ps.map pairD)) := fun ⟨p, xs, e, h, r⟩ => e ▸ .tup h (prs_dats r)
def lowP (a b : Int) : Int × Int := (a / gcdI a b, b / gcdI a b)
theorem fit_low {a b c d : Int} (ha : Pw 600 (a / gcdI a b)) (hb : Pw 600 (b / gcdI a b)) (hc : Pw 600 (c / gcdI c d)) (hd : Pw 600 (d / gcdI c d)) :
    (PyData.list [.tuple [lowD a b, lowD c d], .tuple [lowD a b, lowD c d]]).showable = true ∧ (PyData.list [.tuple [lowD a b, lowD c d], .tuple [lowD a b, lowD c d]]).shown.length ≤ sizeLine ∧ (PyData.list [.tuple [lowD a b, lowD c d], .tuple [lowD a b, lowD c d]]).depth ≤ 40 := by
  obtain ⟨a1, a2, a3⟩ := big_int ha
  obtain ⟨b1, b2, b3⟩ := big_int hb
  obtain ⟨c1, c2, c3⟩ := big_int hc
  obtain ⟨d1, d2, d3⟩ := big_int hd
  have s : (PyData.list [.tuple [lowD a b, lowD c d], .tuple [lowD a b, lowD c d]]).leavesShort 2000 = true := by
    unfold lowD
    rw [PyData.leavesShort, PyData.leavesShortAll, PyData.leavesShortAll, PyData.leavesShortAll, PyData.leavesShort, PyData.leavesShortAll, PyData.leavesShortAll, PyData.leavesShortAll, PyData.leavesShort, PyData.leavesShort, PyData.leavesShortAll, PyData.leavesShortAll, PyData.leavesShortAll, PyData.leavesShortAll, PyData.leavesShortAll, PyData.leavesShortAll, a2, b2, c2, d2]
    rfl
  refine ⟨?_, ?_, ?_⟩
  · unfold lowD
    rw [PyData.showable, PyData.showableAll, PyData.showableAll, PyData.showableAll, PyData.showable, PyData.showableAll, PyData.showableAll, PyData.showableAll, PyData.showable, PyData.showable, PyData.showableAll, PyData.showableAll, PyData.showableAll, PyData.showableAll, PyData.showableAll, PyData.showableAll, a1, b1, c1, d1]
    rfl
  · have := PyData.shown_le 2000 (by decide) _ s
    have w : (PyData.list [.tuple [lowD a b, lowD c d], .tuple [lowD a b, lowD c d]]).weight ≤ 5000 := by
      unfold lowD
      rw [PyData.weight, PyData.weightAll, PyData.weightAll, PyData.weightAll, PyData.weight, PyData.weightAll, PyData.weightAll, PyData.weightAll, PyData.weight, PyData.weight, PyData.weightAll, PyData.weightAll, PyData.weightAll, PyData.weightAll, PyData.weightAll, PyData.weightAll]
      omega
    have sl : 16000000 ≤ sizeLine := by decide
    refine Nat.le_trans this (Nat.le_trans ?_ sl)
    omega
  · simp [lowD, PyData.depth, PyData.depthAll]
/-- the greatest common divisor among the divisors -/
theorem gcd_max {a b : Int} (a0 : 0 ≤ a) (b0 : 0 < b) : 1 ≤ gcdI a b ∧ gcdI a b ≤ b ∧ b % gcdI a b = 0 ∧ a % gcdI a b = 0 ∧ ∀ k, 0 < k → b % k = 0 → a % k = 0 → k ≤ gcdI a b := by
  have g0 := gcd_pos (a := a) b0
  have gl := gcd_le (a := a) b0
  obtain ⟨an, rfl⟩ := Int.eq_ofNat_of_zero_le a0
  obtain ⟨bn, rfl⟩ := Int.eq_ofNat_of_zero_le (Int.le_of_lt b0)
  have e : gcdI (an : Int) (bn : Int) = ((Nat.gcd an bn : Nat) : Int) := by
    unfold gcdI
    rw [Int.natAbs_natCast, Int.natAbs_natCast]
  have cm : ∀ x y : Nat, ((x % y : Nat) : Int) = (x : Int) % (y : Int) := fun _ _ => by simp
  rw [e] at g0 gl ⊢
  refine ⟨by omega, gl, ?_, ?_, fun k k0 h1 h2 => ?_⟩
  · have := Nat.mod_eq_zero_of_dvd (Nat.gcd_dvd_right an bn)
    rw [← cm, this]
    rfl
  · have := Nat.mod_eq_zero_of_dvd (Nat.gcd_dvd_left an bn)
    rw [← cm, this]
    rfl
  · obtain ⟨kn, rfl⟩ := Int.eq_ofNat_of_zero_le (Int.le_of_lt k0)
    have d1 : kn ∣ bn := Nat.dvd_of_mod_eq_zero (by rw [← cm] at h1; exact Int.ofNat.inj h1)
    have d2 : kn ∣ an := Nat.dvd_of_mod_eq_zero (by rw [← cm] at h2; exact Int.ofNat.inj h2)
    have := Nat.le_of_dvd (by omega) (Nat.dvd_gcd d2 d1)
    omega
/-- for over a list that is written there, with draws in it -/
theorem q_forS {K : PySem.W.Frag} {σ : L2.St} {H : Hp} {t : TA} {p : Addr} {U : List V → Prop} {g : TG} {tu tz : TS} {D : Ends} (h : EvSs t σ p U) (hU : ∀ vs, U vs → vs.length ≤ 1000) (sp : SpringAt H p)
    (k : ∀ l vs H2, H l = none → But p H H2 → SpringAt H2 p → H2 l = some (.lst vs) → U vs → tSeq (tFor (iList K (tC (.ref l))) g tu) tz D σ H2) : tSeq (tFor (iList K (tLst t)) g tu) tz D σ H := by
  have q := es_lst h hU sp (Q := fun x H1 => ∃ l, x = .ref l ∧ tSeq (tFor (iList K (tC (.ref l))) g tu) tz D σ H1) fun l vs H2 a b c d e => ⟨l, rfl, k l vs H2 a b c d e⟩
  have e : (fun x H1 => ∃ l, x = .ref l ∧ tSeq (tFor (iList K (tC (.ref l))) g tu) tz D σ H1) = (fun x H1 => (∃ l, x = V.ref l) ∧ tSeq (tFor (iList K (tC x)) g tu) tz D σ H1) := by
    funext x H1
    refine propext ⟨fun ⟨l, e, h⟩ => ⟨⟨l, e⟩, e ▸ h⟩, fun ⟨⟨l, e⟩, h⟩ => ⟨l, e, e ▸ h⟩⟩
  rw [e] at q
  refine h H sp _ fun vs H2 b s u => ?_
  refine ⟨sz_of (by have := hU vs u; omega), fun l nl => ?_⟩
  have el := Ex.new (o := .lst vs) nl
  have nh : H l = none := by
    cases z : H l with
    | none => rfl
    | some o =>
      have lp : l ≠ p := fun y => s.some (y ▸ nl)
      rw [b _ _ lp z] at nl
      cases nl
  exact k l vs _ nh (b.trans (But.of el)) (s.ext el) upd_same u
/-- what the lowest terms are -/
theorem low_ok {a b : Int} (a0 : 0 ≤ a) (b0 : 0 < b) : 0 < b / gcdI a b ∧ 0 ≤ a / gcdI a b ∧ a / gcdI a b ≤ a ∧ b / gcdI a b ≤ b ∧ a / gcdI a b * b = a * (b / gcdI a b) ∧ gcdI (a / gcdI a b) (b / gcdI a b) = 1 := by
  obtain ⟨an, rfl⟩ := Int.eq_ofNat_of_zero_le a0
  obtain ⟨bn, rfl⟩ := Int.eq_ofNat_of_zero_le (Int.le_of_lt b0)
  obtain ⟨g, hg⟩ : ∃ g, g = Nat.gcd an bn := ⟨_, rfl⟩
  have e : gcdI (an : Int) (bn : Int) = (g : Int) := by
    unfold gcdI
    rw [Int.natAbs_natCast, Int.natAbs_natCast, hg]
  have gp : 0 < g := hg ▸ Nat.gcd_pos_of_pos_right an (by omega)
  have da : g ∣ an := hg ▸ Nat.gcd_dvd_left an bn
  have db : g ∣ bn := hg ▸ Nat.gcd_dvd_right an bn
  have ea : ((an : Int) / (g : Int)) = ((an / g : Nat) : Int) := by simp
  have eb : ((bn : Int) / (g : Int)) = ((bn / g : Nat) : Int) := by simp
  rw [e, ea, eb]
  have b1 : 0 < bn / g := Nat.div_pos (Nat.le_of_dvd (by omega) db) gp
  have a2 : an / g ≤ an := Nat.div_le_self _ _
  have b2 : bn / g ≤ bn := Nat.div_le_self _ _
  have cop : Nat.gcd (an / g) (bn / g) = 1 := by
    obtain ⟨l, hl⟩ := da
    obtain ⟨k, hk⟩ := db
    rw [hl, hk, Nat.mul_div_cancel_left _ gp, Nat.mul_div_cancel_left _ gp]
    have z : g = g * Nat.gcd l k := by
      have := Nat.gcd_mul_left g l k
      rw [← hl, ← hk, ← hg] at this
      exact this
    exact Nat.eq_of_mul_eq_mul_left gp (by rw [Nat.mul_one]; exact z.symm)
  have m : an / g * bn = an * (bn / g) := by
    obtain ⟨k, rfl⟩ := db
    obtain ⟨l, rfl⟩ := da
    rw [Nat.mul_div_cancel_left _ gp, Nat.mul_div_cancel_left _ gp, Nat.mul_left_comm, Nat.mul_assoc]
  refine ⟨Int.natCast_pos.mpr b1, Int.natCast_nonneg _, Int.ofNat_le.mpr a2, Int.ofNat_le.mpr b2, ?_, ?_⟩
  · have := congrArg (fun x : Nat => (x : Int)) m
    simpa [Int.natCast_mul] using this
  · unfold gcdI
    rw [Int.natAbs_natCast, Int.natAbs_natCast, cop]
    rfl
theorem low_small {a b : Int} (a0 : 0 ≤ a) (a1 : a ≤ 1000) (b0 : 0 < b) (b1 : b ≤ 1000) : Pw 600 (a / gcdI a b) ∧ Pw 600 (b / gcdI a b) := by
  obtain ⟨o1, o2, o3, o4, _⟩ := low_ok a0 b0
  have p3 : (2 : Nat) ^ 10 ≤ 2 ^ 600 := Nat.pow_le_pow_right (by decide) (by decide)
  have p4 : (2 : Nat) ^ 10 = 1024 := by decide
  constructor
  · exact Nat.lt_of_lt_of_le (by omega) p3
  · exact Nat.lt_of_lt_of_le (by omega) p3
end PW
/-! G5: the remainders of all that can have been taken in a ring -/
namespace PW
open PySem PySem.Spec PyProof.Rows L2 Evl
def addI (l : List Int) (r : Int) : List Int := if r ∈ l then l else l ++ [r]
def addAll : List Int → List Int → List Int
  | l, [] => l
  | l, r :: rs => addAll (addI l r) rs
theorem addAll_app : ∀ (l a b : List Int), addAll l (a ++ b) = addAll (addAll l a) b
  | _, [], _ => rfl
  | l, x :: a, b => addAll_app (addI l x) a b
theorem addAll_snoc (l a : List Int) (x : Int) : addAll l (a ++ [x]) = addI (addAll l a) x := addAll_app l a [x]
theorem mem_addI {x r : Int} {l : List Int} : x ∈ addI l r ↔ x ∈ l ∨ x = r := by
  unfold addI
  split
  · rename_i h
    exact ⟨.inl, fun y => y.elim id fun e => e ▸ h⟩
  · simp
theorem mem_addAll {x : Int} : ∀ {rs l : List Int}, x ∈ addAll l rs ↔ x ∈ l ∨ x ∈ rs
  | [], l => by simp [addAll]
  | r :: rs, l => by
    show x ∈ addAll (addI l r) rs ↔ _
    rw [mem_addAll, mem_addI, List.mem_cons, or_assoc]
theorem nodup_addI {l : List Int} {r : Int} (h : l.Nodup) : (addI l r).Nodup := by
  unfold addI
  split
  · exact h
  · rename_i z
    rw [List.nodup_append]
    refine ⟨h, by simp, ?_⟩
    intro a ha b hb e
    rw [List.mem_singleton.mp hb] at e
    exact z (e ▸ ha)
theorem nodup_addAll : ∀ {rs l : List Int}, l.Nodup → (addAll l rs).Nodup
  | [], _, h => h
  | r :: rs, l, h => by
    show (addAll (addI l r) rs).Nodup
    exact nodup_addAll (nodup_addI h)
theorem nodup_len : ∀ {n : Nat} {l : List Int}, l.Nodup → (∀ x ∈ l, 0 ≤ x ∧ x < (n : Int)) → l.length ≤ n
  | 0, l, _, b => by
    cases l with
    | nil => exact Nat.le_refl _
    | cons x l =>
      have := b x List.mem_cons_self
      omega
  | n + 1, l, h, b => by
    by_cases z : ((n : Int) ∈ l)
    · have e := List.length_erase_of_mem z
      have ih := nodup_len (n := n) (h.erase (n : Int)) (fun x hx => by
        have hx2 := (h.mem_erase_iff.mp hx)
        have := b x hx2.2
        have := hx2.1
        omega)
      have : 0 < l.length := List.length_pos_of_mem z
      omega
    · have ih := nodup_len (n := n) h (fun x hx => by
        have := b x hx
        have : x ≠ (n : Int) := fun y => z (y ▸ hx)
        omega)
      omega
def lots (a b : Int) : List Int := (List.range (b - a + 1).toNat).map fun (k : Nat) => a + (k : Int)
theorem mem_lots {a b c : Int} : c ∈ lots a b ↔ a ≤ c ∧ c ≤ b := by
  unfold lots
  rw [List.mem_map]
  constructor
  · rintro ⟨k, hk, rfl⟩
    have := List.mem_range.mp hk
    omega
  · rintro ⟨h1, h2⟩
    exact ⟨(c - a).toNat, List.mem_range.mpr (by omega), by omega⟩
def mixOne (n : Int) (p : Int × Int) (r : Int) : List Int := (lots p.1 p.2).map fun c => (r + c) % n
def mixed (n : Int) (p : Int × Int) (layer : List Int) : List Int := layer.flatMap (mixOne n p)
def pairAt (ps : List (Int × Int)) (t : Nat) : Int × Int := ps.getD (t % ps.length) (0, 0)
def layerI (n : Int) (ps : List (Int × Int)) : Nat → List Int
  | 0 => [0]
  | t + 1 => addAll [] (mixed n (pairAt ps t) (layerI n ps t))
def pastI (n : Int) (ps : List (Int × Int)) : Nat → List Int
  | 0 => []
  | t + 1 => addAll (pastI n ps t) (layerI n ps t)
theorem row_pm {ps : List (Int × Int)} {i : Nat} (h : 0 < ps.length) : rowOfI (mostsOf ps) i = (ps.getD (i % ps.length) (0, 0)).2 := by
  unfold rowOfI mostsOf
  rw [List.length_map]
  have lt : i % ps.length < ps.length := Nat.mod_lt _ h
  simp [List.getD_eq_getElem?_getD, lt]
theorem mem_layer {n : Int} {ps : List (Int × Int)} (R : Ring n ps) {x : Int} : ∀ {t : Nat}, x ∈ layerI n ps t ↔ ∃ y, sumTo (rowOfI (leastsOf ps)) 0 t ≤ y ∧ y ≤ sumTo (rowOfI (mostsOf ps)) 0 t ∧ x = y % n
  | 0 => by
    show x ∈ [0] ↔ _
    rw [List.mem_singleton]
    constructor
    · rintro rfl
      exact ⟨0, Int.le_refl _, Int.le_refl _, by simp⟩
    · rintro ⟨y, h1, h2, rfl⟩
      have h1' : (0 : Int) ≤ y := h1
      have h2' : y ≤ (0 : Int) := h2
      have : y = 0 := by omega
      rw [this]
      simp
  | t + 1 => by
    have l1 := R.one
    have lt : t % ps.length < ps.length := Nat.mod_lt _ l1
    obtain ⟨o1, o2, o3⟩ := R.getOk lt
    have ea : sumTo (rowOfI (leastsOf ps)) 0 (t + 1) = sumTo (rowOfI (leastsOf ps)) 0 t + (pairAt ps t).1 := by
      show _ + rowOfI (leastsOf ps) (0 + t) = _
      rw [Nat.zero_add, row_ps l1]
      rfl
    have eb : sumTo (rowOfI (mostsOf ps)) 0 (t + 1) = sumTo (rowOfI (mostsOf ps)) 0 t + (pairAt ps t).2 := by
      show _ + rowOfI (mostsOf ps) (0 + t) = _
      rw [Nat.zero_add, row_pm l1]
      rfl
    have hp : 0 ≤ (pairAt ps t).1 ∧ (pairAt ps t).1 ≤ (pairAt ps t).2 := ⟨o1, o2⟩
    show x ∈ addAll [] (mixed n (pairAt ps t) (layerI n ps t)) ↔ _
    rw [mem_addAll, ea, eb]
    obtain ⟨a, ha⟩ : ∃ a, a = (pairAt ps t).1 := ⟨_, rfl⟩
    obtain ⟨b, hb⟩ : ∃ b, b = (pairAt ps t).2 := ⟨_, rfl⟩
    unfold mixed mixOne
    rw [← ha, ← hb] at hp ⊢
    constructor
    · rintro (h | h)
      · cases h
      · obtain ⟨r, hr, hx⟩ := List.mem_flatMap.mp h
        obtain ⟨c, hc, rfl⟩ := List.mem_map.mp hx
        obtain ⟨y, y1, y2, rfl⟩ := (mem_layer R).mp hr
        obtain ⟨c1, c2⟩ := mem_lots.mp hc
        exact ⟨y + c, by omega, by omega, by rw [Int.emod_add_emod]⟩
    · rintro ⟨z, z1, z2, rfl⟩
      refine .inr (List.mem_flatMap.mpr ?_)
      by_cases w : z - b ≤ sumTo (rowOfI (leastsOf ps)) 0 t
      · have lm : sumTo (rowOfI (leastsOf ps)) 0 t ≤ sumTo (rowOfI (mostsOf ps)) 0 t ∨ sumTo (rowOfI (mostsOf ps)) 0 t < sumTo (rowOfI (leastsOf ps)) 0 t := by omega
        rcases lm with lm | lm
        · exact ⟨_, (mem_layer R).mpr ⟨sumTo (rowOfI (leastsOf ps)) 0 t, Int.le_refl _, lm, rfl⟩, List.mem_map.mpr ⟨z - sumTo (rowOfI (leastsOf ps)) 0 t, mem_lots.mpr ⟨by omega, by omega⟩, by rw [Int.emod_add_emod]; congr 1; omega⟩⟩
        · exfalso
          have : ∀ u, sumTo (rowOfI (leastsOf ps)) 0 u ≤ sumTo (rowOfI (mostsOf ps)) 0 u := fun u => by
            induction u with
            | zero => exact Int.le_refl _
            | succ u ih =>
              show _ + rowOfI (leastsOf ps) (0 + u) ≤ _ + rowOfI (mostsOf ps) (0 + u)
              rw [Nat.zero_add, row_ps l1, row_pm l1]
              have := R.getOk (Nat.mod_lt u l1)
              omega
          have := this t
          omega
      · exact ⟨_, (mem_layer R).mpr ⟨z - b, by omega, by omega, rfl⟩, List.mem_map.mpr ⟨b, mem_lots.mpr ⟨by omega, by omega⟩, by rw [Int.emod_add_emod]; congr 1; omega⟩⟩
theorem layer_in {n : Int} {ps : List (Int × Int)} (R : Ring n ps) {t : Nat} {x : Int} (h : x ∈ layerI n ps t) : 0 ≤ x ∧ x < n := by
  have n1 := R.n1
  obtain ⟨y, _, _, rfl⟩ := (mem_layer R).mp h
  exact ⟨Int.emod_nonneg _ (by omega), Int.emod_lt_of_pos _ (by omega)⟩
theorem mem_past {n : Int} {ps : List (Int × Int)} {x : Int} : ∀ {t : Nat}, x ∈ pastI n ps t ↔ ∃ u, u < t ∧ x ∈ layerI n ps u
  | 0 => by simp [pastI]
  | t + 1 => by
    show x ∈ addAll _ _ ↔ _
    rw [mem_addAll, mem_past]
    constructor
    · rintro (⟨u, h, k⟩ | k)
      · exact ⟨u, by omega, k⟩
      · exact ⟨t, by omega, k⟩
    · rintro ⟨u, h, k⟩
      by_cases e : u = t
      · exact .inr (e ▸ k)
      · exact .inl ⟨u, by omega, k⟩
theorem hit_iff {g p q : Int} : ∀ {ls : List Int} {t : Int}, hitI g p q ls t = true ↔ ∃ j, j < ls.length ∧ (q - (t + (ls.take j).sum)) / g > (p - (t + (ls.take j).sum)) / g
  | [], t => by
    constructor
    · intro h; cases h
    · rintro ⟨j, h, _⟩; cases h
  | x :: xs, t => by
    rw [hitI_cons, Bool.or_eq_true, decide_eq_true_eq, hit_iff (ls := xs)]
    constructor
    · rintro (h | ⟨j, h, k⟩)
      · exact ⟨0, by simp, by simpa using h⟩
      · refine ⟨j + 1, by simp; omega, ?_⟩
        rw [List.take_succ_cons, List.sum_cons, ← Int.add_assoc]
        exact k
    · rintro ⟨j, h, k⟩
      cases j with
      | zero => exact .inl (by simpa using k)
      | succ j =>
        rw [List.take_succ_cons, List.sum_cons, ← Int.add_assoc] at k
        exact .inr ⟨j, by simpa using h, k⟩
theorem take_sum {ls : List Int} : ∀ {j : Nat}, j ≤ ls.length → (ls.take j).sum = sumTo (rowOfI ls) 0 j
  | 0, _ => rfl
  | j + 1, h => by
    have ih := take_sum (ls := ls) (j := j) (by omega)
    have hj : j < ls.length := by omega
    rw [List.take_succ, List.sum_append, ih]
    show _ = _ + rowOfI ls (0 + j)
    congr 1
    unfold rowOfI
    rw [Nat.zero_add, Nat.mod_eq_of_lt hj, List.getD_eq_getElem?_getD, List.getElem?_eq_getElem hj]
    simp
theorem gt_iff {g p q u : Int} (g0 : 0 < g) : (q - u) / g > (p - u) / g ↔ ∃ c, p < u + g * c ∧ u + g * c ≤ q := by
  constructor
  · intro h
    refine ⟨(q - u) / g, ?_, ?_⟩
    · have h2 : (p - u) / g < (q - u) / g := h
      have := Int.lt_mul_of_ediv_lt g0 h2
      rw [Int.mul_comm] at this
      omega
    · have := Int.mul_ediv_self_le (x := q - u) (k := g) (by omega)
      omega
  · rintro ⟨c, h1, h2⟩
    have a : c ≤ (q - u) / g := (Int.le_ediv_iff_mul_le g0).mpr (by rw [Int.mul_comm]; omega)
    have b : (p - u) / g < c := (Int.ediv_lt_iff_lt_mul g0).mpr (by rw [Int.mul_comm]; omega)
    omega
theorem bez : ((List.range 61).all fun s => (List.range 11).all fun n => n == 0 || (List.range n).all fun d => (List.range n).any fun k => (k * s) % n == (Nat.gcd s n * d) % n) = true := by decide +kernel
theorem bez_of {s n d : Nat} (hs : s ≤ 60) (hn : n ≤ 10) (n1 : 1 ≤ n) (hd : d < n) : ∃ k, k < n ∧ (k * s) % n = (Nat.gcd s n * d) % n := by
  have h1 := List.all_eq_true.mp bez s (List.mem_range.mpr (by omega))
  have h2 := List.all_eq_true.mp h1 n (List.mem_range.mpr (by omega))
  rcases (Bool.or_eq_true _ _).mp h2 with h2 | h2
  · have := eq_of_beq h2
    omega
  obtain ⟨k, hk, he⟩ := List.any_eq_true.mp (List.all_eq_true.mp h2 d (List.mem_range.mpr hd))
  exact ⟨k, List.mem_range.mp hk, eq_of_beq he⟩
theorem same_sum : ∀ {ps : List (Int × Int)}, (∀ p ∈ ps, p.1 ≤ p.2) → (leastsOf ps).sum ≤ (mostsOf ps).sum ∧ ((leastsOf ps).sum = (mostsOf ps).sum → leastsOf ps = mostsOf ps)
  | [], _ => ⟨Int.le_refl _, fun _ => rfl⟩
  | p :: ps, h => by
    have ih := same_sum (ps := ps) fun q hq => h q (List.mem_cons_of_mem _ hq)
    have hp := h p List.mem_cons_self
    have e1 : (leastsOf (p :: ps)).sum = p.1 + (leastsOf ps).sum := List.sum_cons
    have e2 : (mostsOf (p :: ps)).sum = p.2 + (mostsOf ps).sum := List.sum_cons
    refine ⟨by omega, fun e => ?_⟩
    have a := ih.2 (by omega)
    have b : p.1 = p.2 := by omega
    show p.1 :: leastsOf ps = p.2 :: mostsOf ps
    rw [a, b]
theorem lead_past {n : Int} {ps : List (Int × Int)} (R : Ring n ps) (n10 : n ≤ 10) {p q : Int} (p0 : 0 ≤ p) (pn : p < n) (q0 : 0 ≤ q) (qn : q < n) (ne : p ≠ q) {T : Nat} (hT : (T : Int) = (ps.length : Int) * (2 * n + 1) + 1) :
    (if ((pastI n ps T).any fun r => decide (p < r) && decide (r ≤ q)) then (1 : Int) else 0) = leadI n ps p q := by
  have n1 := R.n1
  have l1 := R.one
  have any_iff : ((pastI n ps T).any fun r => decide (p < r) && decide (r ≤ q)) = true ↔ ∃ r u, u < T ∧ r ∈ layerI n ps u ∧ p < r ∧ r ≤ q := by
    rw [List.any_eq_true]
    constructor
    · rintro ⟨r, hr, h⟩
      obtain ⟨u, hu, hk⟩ := mem_past.mp hr
      rw [Bool.and_eq_true] at h
      exact ⟨r, u, hu, hk, of_decide_eq_true h.1, of_decide_eq_true h.2⟩
    · rintro ⟨r, u, hu, hk, h1, h2⟩
      exact ⟨r, mem_past.mpr ⟨u, hu, hk⟩, by rw [decide_eq_true h1, decide_eq_true h2]; rfl⟩
  obtain ⟨nn, hn⟩ := Int.eq_ofNat_of_zero_le (a := n) (by omega)
  have lsl : (leastsOf ps).length = ps.length := List.length_map ..
  have msl : (mostsOf ps).length = ps.length := List.length_map ..
  have hT2 : T = ps.length * (2 * nn + 1) + 1 := by
    apply Int.natCast_inj.mp
    rw [hT, hn]
    simp
  have hT3 : ps.length * (2 * nn + 1) = ps.length * (2 * nn) + ps.length := by rw [Nat.mul_add, Nat.mul_one]
  have hT4 : ps.length * (2 * nn) = 2 * (nn * ps.length) := by rw [Nat.mul_comm, Nat.mul_assoc]
  unfold leadI
  by_cases hpq : p > q
  · rw [if_pos hpq, if_neg]
    intro h
    obtain ⟨r, _, _, _, h1, h2⟩ := any_iff.mp h
    omega
  rw [if_neg hpq]
  have sm := same_sum (ps := ps) fun z hz => (R.ok z hz).2.1
  by_cases hlm : (leastsOf ps).sum < (mostsOf ps).sum
  · rw [if_pos hlm, if_pos]
    refine any_iff.mpr ⟨q, nn * ps.length, by omega, (mem_layer R).mpr ?_, Int.lt_iff_le_and_ne.mpr ⟨Int.not_lt.mp hpq, ne⟩, Int.le_refl _⟩
    have eL := rounds_sum (ls := leastsOf ps) (by omega) 0 nn 0
    have eM := rounds_sum (ls := mostsOf ps) (by omega) 0 nn 0
    rw [lsl, Nat.add_zero] at eL
    rw [msl, Nat.add_zero] at eM
    have z1 : sumTo (rowOfI (leastsOf ps)) 0 0 = 0 := rfl
    have z2 : sumTo (rowOfI (mostsOf ps)) 0 0 = 0 := rfl
    rw [z1, Int.add_zero] at eL
    rw [z2, Int.add_zero] at eM
    rw [eL, eM]
    have d : (nn : Int) * ((leastsOf ps).sum + 1) ≤ (nn : Int) * (mostsOf ps).sum := Int.mul_le_mul_of_nonneg_left (by omega) (by omega)
    rw [Int.mul_add, Int.mul_one] at d
    have m0 := Int.emod_nonneg (q - (nn : Int) * (leastsOf ps).sum) (by omega : n ≠ 0)
    have m1 := Int.emod_lt_of_pos (q - (nn : Int) * (leastsOf ps).sum) (by omega : 0 < n)
    refine ⟨(nn : Int) * (leastsOf ps).sum + (q - (nn : Int) * (leastsOf ps).sum) % n, by omega, by omega, ?_⟩
    rw [Int.add_emod_emod]
    have : (nn : Int) * (leastsOf ps).sum + (q - (nn : Int) * (leastsOf ps).sum) = q := by omega
    rw [this, Int.emod_eq_of_lt q0 qn]
  rw [if_neg hlm]
  have same := sm.2 (by omega)
  have mp := R.mostPw
  obtain ⟨s, hs⟩ := Int.eq_ofNat_of_zero_le mp.2.2.1
  have s60 : s ≤ 60 := by omega
  have hg : gcdI (leastsOf ps).sum n = ((Nat.gcd s nn : Nat) : Int) := by rw [hs, hn]; rfl
  have g0 := gcd_pos (a := (leastsOf ps).sum) (b := n) (by omega)
  have core : ((pastI n ps T).any fun r => decide (p < r) && decide (r ≤ q)) = true ↔ hitI (gcdI (leastsOf ps).sum n) p q (leastsOf ps) 0 = true := by
    rw [any_iff, hit_iff]
    constructor
    · rintro ⟨r, u, hu, hr, h1, h2⟩
      obtain ⟨y, y1, y2, rfl⟩ := (mem_layer R).mp hr
      rw [← same] at y2
      have ey : y = sumTo (rowOfI (leastsOf ps)) 0 u := by omega
      have eu : u = (u / ps.length) * ps.length + u % ps.length := (Nat.div_add_mod' u ps.length).symm
      have rs := rounds_sum (ls := leastsOf ps) (by omega) 0 (u / ps.length) (u % ps.length)
      rw [lsl, ← eu] at rs
      have lt : u % ps.length < ps.length := Nat.mod_lt _ l1
      refine ⟨u % ps.length, by omega, ?_⟩
      rw [take_sum (by omega), Int.zero_add]
      refine (gt_iff g0).mpr ?_
      obtain ⟨a, ha⟩ : ((Nat.gcd s nn : Nat) : Int) ∣ (leastsOf ps).sum := by rw [hs]; exact Int.natCast_dvd_natCast.mpr (Nat.gcd_dvd_left s nn)
      obtain ⟨b, hb⟩ : ((Nat.gcd s nn : Nat) : Int) ∣ n := by rw [hn]; exact Int.natCast_dvd_natCast.mpr (Nat.gcd_dvd_right s nn)
      have em : y % n = y - n * (y / n) := Int.emod_def y n
      refine ⟨((u / ps.length : Nat) : Int) * a - b * (y / n), ?_⟩
      have ee : sumTo (rowOfI (leastsOf ps)) 0 (u % ps.length) + gcdI (leastsOf ps).sum n * (((u / ps.length : Nat) : Int) * a - b * (y / n)) = y % n := by
        rw [hg, em, ey, rs, Int.mul_sub, ← Int.mul_assoc, ← Int.mul_assoc, ← hb, Int.mul_comm _ ((u / ps.length : Nat) : Int), Int.mul_assoc, ← ha]
        omega
      rw [ee]
      exact ⟨h1, h2⟩
    · rintro ⟨j, hj, h⟩
      rw [take_sum (by omega), Int.zero_add] at h
      obtain ⟨c, c1, c2⟩ := (gt_iff g0).mp h
      obtain ⟨y, hy⟩ : ∃ y, y = sumTo (rowOfI (leastsOf ps)) 0 j + gcdI (leastsOf ps).sum n * c := ⟨_, rfl⟩
      rw [← hy] at c1 c2
      have d0 := Int.emod_nonneg c (by omega : n ≠ 0)
      have d1 := Int.emod_lt_of_pos c (by omega : 0 < n)
      obtain ⟨k, hk, hb⟩ := bez_of (s := s) (n := nn) (d := (c % n).toNat) s60 (by omega) (by omega) (by omega)
      have hb2 : ((k : Int) * (leastsOf ps).sum) % n = (gcdI (leastsOf ps).sum n * c) % n := by
        have := congrArg (Int.ofNat) hb
        have h3 : (((k * s) % nn : Nat) : Int) = (((Nat.gcd s nn * (c % n).toNat) % nn : Nat) : Int) := this
        rw [Int.natCast_emod, Int.natCast_emod, Int.natCast_mul, Int.natCast_mul, ← hn, Int.toNat_of_nonneg d0, ← hs, ← hg, Int.mul_emod _ (c % n), Int.emod_emod, ← Int.mul_emod] at h3
        exact h3
      have lt2 : k * ps.length + j < T := by
        have : k * ps.length ≤ nn * ps.length := Nat.mul_le_mul_right _ (by omega)
        omega
      refine ⟨y, k * ps.length + j, lt2, (mem_layer R).mpr ⟨sumTo (rowOfI (leastsOf ps)) 0 (k * ps.length + j), Int.le_refl _, by rw [← same]; exact Int.le_refl _, ?_⟩, c1, c2⟩
      have rs := rounds_sum (ls := leastsOf ps) (by omega) 0 k j
      rw [lsl] at rs
      rw [rs, Int.add_emod, hb2, ← Int.add_emod, Int.add_comm, ← hy, Int.emod_eq_of_lt (by omega) (by omega)]
  by_cases hh : hitI (gcdI (leastsOf ps).sum n) p q (leastsOf ps) 0 = true
  · rw [if_pos hh, if_pos (core.mpr hh)]
  · rw [if_neg hh, if_neg (fun z => hh (core.mp z))]
end PW
/-! G6: dicts that are filled with numbers and gone over; lists that grow by what is not in them -/
namespace PW
open PySem PySem.Spec PyProof.Rows L2 Evl
theorem bAny : bootBuiltins "any" = some (.builtin "any") := by decide +kernel
section
variable {K : PySem.W.Frag} {σ : L2.St} {H : Hp} {tl te ta tb : TE} {t : TT}
def kvsOf (ks : List Int) : List (Key × V) := ks.map fun r => (Sum.inl r, V.bl true)
theorem put_kvs (ks : List Int) (r : Int) : putK (kvsOf ks) (Sum.inl r) (.bl true) = kvsOf (addI ks r) := by
  unfold putK addI
  by_cases z : r ∈ ks
  · rw [if_pos z, if_pos]
    · unfold kvsOf
      rw [List.map_map]
      refine List.map_congr_left fun x _ => ?_
      show (if (Sum.inl x : Key) = Sum.inl r then ((Sum.inl x : Key), V.bl true) else ((Sum.inl x : Key), V.bl true)) = ((Sum.inl x : Key), V.bl true)
      split <;> rfl
    · rw [List.any_eq_true]
      exact ⟨_, List.mem_map.mpr ⟨r, z, rfl⟩, decide_eq_true rfl⟩
  · rw [if_neg z, if_neg]
    · unfold kvsOf
      rw [List.map_append]
      rfl
    · intro h
      obtain ⟨kv, hk, e⟩ := List.any_eq_true.mp h
      obtain ⟨x, hx, rfl⟩ := List.mem_map.mp hk
      have e2 : (Sum.inl x : Key) = Sum.inl r := of_decide_eq_true e
      cases e2
      exact z hx
theorem inV_int (x : Int) (ks : List Int) : inV (.int x) (ks.map V.int) = decide (x ∈ ks) := by
  unfold inV
  rw [List.any_map, Bool.eq_iff_iff, List.any_eq_true, decide_eq_true_iff]
  constructor
  · rintro ⟨y, hy, e⟩
    have e2 : (y == x) = true := e
    exact (eq_of_beq e2) ▸ hy
  · intro h
    exact ⟨x, h, (beq_self_eq_true x : (x == x) = true)⟩
theorem flat_ints (ks : List Int) : (ks.map V.int).all flatV = true := by
  rw [List.all_map, List.all_eq_true]
  intro x _
  rfl
theorem er_newL {xs : List V} (h : EvL te σ H xs) : EvR te σ H (fun H' v => ∃ l, v = .ref l ∧ H l = none ∧ H' l = some (.lst xs)) := fun H1 e Q q => h H1 e _ fun p H2 n e2 h2 => q (.ref p) H2 e2 ⟨p, rfl, fresh_back e n, h2⟩
theorem mono_newL {xs : List V} : Mono (fun (H' : Hp) (v : V) => ∃ l, v = .ref l ∧ H l = none ∧ H' l = some (.lst xs)) := fun _ _ _ e ⟨l, a, b, c⟩ => ⟨l, a, b, e _ _ c⟩
theorem er_newD : EvR tDNewK σ H (fun H' v => ∃ d, v = .ref d ∧ H d = none ∧ H' d = some (.dK [])) := fun H1 e Q q p n => q (.ref p) _ (Ex.new n) ⟨p, rfl, fresh_back e n, upd_same⟩
theorem lock_none {H1 : Hp} {d p : Addr} {o : HO} (h : upd H1 d o p = none) : p ≠ d ∧ H1 p = none := by
  by_cases z : p = d
  · subst z
    rw [upd_same] at h
    cases h
  · rw [upd_ne z] at h
    exact ⟨z, h⟩
theorem el_lock {d : Addr} {u : HO} {xs : List V} (hd : H d = some u) (mu : Mut (some u)) (h : ∀ H1, Ex H H1 → ∀ od, EvL te σ (upd H1 d (.frz od u)) xs) : EvL (tLockE te) σ H xs := fun H1 e Q q =>
  ⟨d, u, e _ _ hd, mu, fun od => h H1 e od _ (Ex.refl _) _ fun p H2 np e2 hp => by
    obtain ⟨ne, np1⟩ := lock_none np
    refine ⟨e2 _ _ upd_same, q p (upd H2 d u) np1 (fun a o ha => ?_) (by rw [upd_ne ne]; exact hp)⟩
    by_cases z : a = d
    · subst z
      rw [upd_same]
      rw [e _ _ hd] at ha
      exact ha
    · rw [upd_ne z]
      exact e2 _ _ (by rw [upd_ne z]; exact ha)⟩
theorem el_lcD {d : Addr} {kvs : List (Key × V)} {j : Nat} {vs : List Nat} (f : Nat → Bool) (v : Nat → V) (hs : ∀ H', Ev tl σ H' (.ref d)) (hd : H d = some (.dK kvs)) (hz : kvs.length ≤ 40000)
    (hw : ∀ x, wipe ((wipe σ vs).set j (some x)) vs = wipe σ vs)
    (ht : ∀ (n : Nat) (k : Key) (u : V) H1, kvs[n]? = some (k, u) → EvT t ((wipe σ vs).set j (some (kV k))) H1 (f n)) (he : ∀ (n : Nat) (k : Key) (u : V) H1, kvs[n]? = some (k, u) → Ev te ((wipe σ vs).set j (some (kV k))) H1 (v n)) :
    EvL (tLockE (tLc (iKeys tl) (gName j) t te vs)) σ H (given kvs.length f v) :=
  el_lock hd trivial fun H1 e1 od => fun H0 e Q q => hs H0 H0 (Ex.refl _) _ fun H2 e2 => ⟨d, od, rfl, .inl ⟨kvs, (e.trans e2) _ _ upd_same, fun Dl hD =>
    lc_it walk_keys (Cw H2 f v Dl) ⟨hD, Ex.new hD, upd_same⟩ (fun n H' _ p => p.2.1 _ _ ((e.trans e2) _ _ upd_same))
      (fun n x H' H'' hn p y => by
        obtain ⟨rfl, k, u, hk, rfl⟩ := y
        exact ⟨hw _, cw_turn p (by omega) (ht n k u _ hk) (fun _ => he n k u _ hk)⟩)
      (fun H' p => q Dl H' (fresh_back e2 p.1) (e2.trans p.2.1) p.2.2)⟩⟩
theorem ev_anyL {bs : List Bool} (h : EvL te σ H (bs.map V.bl)) : Ev (tCB (rAny K) (tCons te tNil)) σ H (.bl (bs.any id)) := fun H1 e Q q =>
  h H1 e _ fun p H2 np e2 hp => ⟨p, bs, rfl, sq_of hp, q H2 e2⟩
end
theorem later_len {n : Int} {xs : List Int} (n1 : 1 ≤ n) (h : ∀ x ∈ xs, 0 ≤ x ∧ x < n) : ((addAll [] xs).length : Int) ≤ n := by
  obtain ⟨nn, hn⟩ := Int.eq_ofNat_of_zero_le (a := n) (by omega)
  have := nodup_len (n := nn) (l := addAll [] xs) (nodup_addAll List.nodup_nil) (fun x hx => by
    rcases mem_addAll.mp hx with h1 | h1
    · cases h1
    · have := h x h1
      omega)
  omega
theorem nodup_past {n : Int} {ps : List (Int × Int)} : ∀ {t : Nat}, (pastI n ps t).Nodup
  | 0 => List.nodup_nil
  | _ + 1 => nodup_addAll nodup_past
theorem past_len {n : Int} {ps : List (Int × Int)} (R : Ring n ps) {t : Nat} {xs : List Int} (h : ∀ x ∈ xs, x ∈ layerI n ps t) : ((addAll (pastI n ps t) xs).length : Int) ≤ n := by
  have n1 := R.n1
  obtain ⟨nn, hn⟩ := Int.eq_ofNat_of_zero_le (a := n) (by omega)
  have := nodup_len (n := nn) (l := addAll (pastI n ps t) xs) (nodup_addAll nodup_past) (fun x hx => by
    rcases mem_addAll.mp hx with h1 | h1
    · obtain ⟨u, _, hu⟩ := mem_past.mp h1
      have := layer_in R hu
      omega
    · have := layer_in R (h x h1)
      omega)
  omega
theorem past_len0 {n : Int} {ps : List (Int × Int)} (R : Ring n ps) {t : Nat} : ((pastI n ps t).length : Int) ≤ n := past_len R (xs := []) (fun _ h => by cases h)
def mixTo (n a x : Int) (j : Nat) : List Int := (List.range j).map fun (m : Nat) => (x + (a + (m : Int))) % n
theorem mixTo_all (n : Int) (p : Int × Int) (x : Int) : mixTo n p.1 x (p.2 + 1 - p.1).toNat = mixOne n p x := by
  have e : p.2 + 1 - p.1 = p.2 - p.1 + 1 := by omega
  unfold mixTo mixOne lots
  rw [List.map_map, e]
  rfl
theorem mixTo_succ (n a x : Int) (j : Nat) : mixTo n a x (j + 1) = mixTo n a x j ++ [(x + (a + (j : Int))) % n] := by
  unfold mixTo
  rw [List.range_succ, List.map_append]
  rfl
theorem mixTo_in {n a x : Int} {j : Nat} (n1 : 1 ≤ n) : ∀ y ∈ mixTo n a x j, 0 ≤ y ∧ y < n := fun y hy => by
  obtain ⟨m, _, rfl⟩ := List.mem_map.mp hy
  exact ⟨Int.emod_nonneg _ (by omega), Int.emod_lt_of_pos _ (by omega)⟩
theorem mixed_in {n : Int} {p : Int × Int} {l : List Int} (n1 : 1 ≤ n) : ∀ y ∈ mixed n p l, 0 ≤ y ∧ y < n := fun y hy => by
  obtain ⟨x, _, hx⟩ := List.mem_flatMap.mp hy
  obtain ⟨c, _, rfl⟩ := List.mem_map.mp hx
  exact ⟨Int.emod_nonneg _ (by omega), Int.emod_lt_of_pos _ (by omega)⟩
theorem mixed_take {n : Int} {p : Int × Int} {l : List Int} {k : Nat} {x : Int} (h : l[k]? = some x) : mixed n p (l.take (k + 1)) = mixed n p (l.take k) ++ mixOne n p x := by
  unfold mixed
  rw [List.take_succ, h, List.flatMap_append]
  simp
theorem take_snoc {l : List Int} {k : Nat} {x : Int} (h : l[k]? = some x) : l.take (k + 1) = l.take k ++ [x] := by
  rw [List.take_succ, h]
  rfl
end PW
/-! T0: an except clause over three classes; what is kept where tables of code objects grow -/
namespace PW
open PySem PySem.Spec PyProof.Rows L2
theorem fly_push {B h : Heap} {l : List Env} {a : Addr} {Z : Obj → Prop} (o : Obj) (x : HandSPX.FlyingZ B l a Z h) : HandSPX.FlyingZ B l a Z (h.push o) := by
  obtain ⟨k1, k2, k3, oe, vs, T, oT, ts, he, hz, hd, h1, hnT, hTe, hT, hdT, h3⟩ := x
  exact ⟨fun b u e => Heap.get?_push_of_some _ (k1 b u e), k2, k3.of_keeps fun b u e _ => ⟨u, Heap.get?_push_of_some _ e, rfl⟩, oe, vs, T, oT, ts,
    Heap.get?_push_of_some _ he, hz, hd, h1, hnT, hTe, Heap.get?_push_of_some _ hT, hdT, h3⟩
theorem up_push {h : Heap} (o : Obj) : h.UpToSlots (h.push o) := fun b u e _ => ⟨u.slots, Heap.get?_push_of_some _ e⟩
/-- what 'except (x1, x2, x3) as n' wishes: one of them it is -/
def wAs3 (K : PySem.W.Frag) (c1 c2 c3 : Value) (i : Nat) (ts : Addr → Value → Option Addr → TS) (D : Ends) : WX := fun cls d σ H =>
  PySem.W.exmAny K cls [c1, c2, c3] = some true ∧ ∀ a, H a = none → ts a cls d { nx := fun σ' H' => D.nx (σ'.set i none) H', rt := D.rt, bk := fun σ' H' => D.bk (σ'.set i none) H', ct := fun σ' H' => D.ct (σ'.set i none) H' } (σ.set i (some (.ref a))) H
section
variable {X : Cx} {x1 x2 x3 n : Str} {c1 c2 c3 : Value} {i : Nat} {body suite : List Stmt} {b₀ : Stmt} {p1 p2 p3 tpos pos pos' : Pos} {kk : Nat} {tb : WX → TS} {ts : Addr → Value → Option Addr → TS}
theorem ps_try_as3 (hs : X.stack = X.env :: X.outer) (hf : X.env.frame = some X.env.locals) (hN : X.N.Nodup) (hi : X.N[i]? = some n) (hln : X.env.kindOf n = some .local)
    (n1 : Names X x1 c1) (n2 : Names X x2 c2) (n3 : Names X x3 c3)
    (hb : ∀ (W : WX) (pn : List (Addr × Obj)) (xe : Value → Shared → Prop), Takes (X.tr pn xe) W → PassesOwn (model X.prog X.w) X.A X.env xe → PSs (X.tr pn xe) body (tb W))
    (hsu : ∀ (a : Addr) (oe : Obj) (cls : Value) (d : Option Addr) (pn : List (Addr × Obj)), Zc cls d oe → (∃ vs, oe.data = .fields vs) → PSs (X.suite a ((a, oe) :: pn)) (b₀ :: suite) (ts a cls d)) :
    PS X (.Try body [.ExceptHandler (some (.Tuple [.Name x1 p1, .Name x2 p2, .Name x3 p3] kk tpos)) (some n) (b₀ :: suite) pos'] [] [] pos) (fun D σ H => tb (wAs3 X.K c1 c2 c3 i ts D) D σ H) := by
  refine ⟨fun pins s σ H D I h => ?_⟩
  have ok := I.ok
  have hfr : X.A.frames = some (X.env :: X.outer) := by rw [ok.frames, hs]
  have hloc : Loc X.env.scope n := .inl hln
  refine wpAny_Try_except ?_
  refine wpAny_mono ((hb (wAs3 X.K c1 c2 c3 i ts D) (X.pn ++ pins) (fun e s₁ => wpAny (model X.prog X.w) X.A (noteFrame e X.env) (fun _ s₂ => wpAny (model X.prog X.w) X.A (setFlight e none) (fun _ s₃ =>
    wpAny (model X.prog X.w) X.A (handleBy e X.env [.ExceptHandler (some (.Tuple [.Name x1 p1, .Name x2 p2, .Name x3 p3] kk tpos)) (some n) (b₀ :: suite) pos']) (SP X pins D) X.xe s₃) X.xe s₂) X.xe s₁) (fun u s' xx => ?_) PassesOwn.looking).run [] s σ H D (I.toTry _) h) (fun f s1 hsp => ?_) (fun e s1 he => he)
  · -- the catch
    obtain ⟨a, B, sI, pins', σ', H', cls, d, rfl, J', nb, up, sky, na, os, ag, hb1, hyes⟩ := xx
    have J : Inv X pins σ' H' sI := J'.ofTry ok
    have sky' : Sky B (X.env :: X.outer) a (Zc cls d) X.env.locals s'.heap := by rw [← hs]; exact sky
    show wpAny (model X.prog X.w) X.A (noteFrame (.ref a) X.env) _ _ _
    refine Sky.land Zc.steady hfr hf sky' fun h3 fl3 up3 => ?_
    have J3 : Inv X pins σ' H' { s' with heap := h3 } := J.landed nb fl3.1 (up.trans up3) os ag
    obtain ⟨oe3, vs3, he3, hz3, hd3⟩ := fl3.there
    have notFr : ∀ {h : Heap} {o : Obj} {vs : Array Value}, h.FunFrames B (X.env :: X.outer) → h.get? a = some o → o.data = .fields vs → a ∉ frs (X.env :: X.outer) := fun {h o vs} ff e dd hm => by
      obtain ⟨_, o', e', hnf⟩ := ff.mem hm
      rw [e] at e'; cases e'
      exact hnf _ dd
    have nfr := notFr fl3.2.2.1 he3 hd3
    have nL : a ≠ X.env.locals := fun z => nfr (List.mem_filterMap.mpr ⟨X.env, List.mem_cons_self, by rw [hf, z]⟩)
    have nF : a ∉ X.fs := fun hm => by
      obtain ⟨e, he, q⟩ := List.mem_filterMap.mp hm
      exact nfr (List.mem_filterMap.mpr ⟨e, List.mem_cons_of_mem _ he, q⟩)
    have S3 := J3.suite he3 hd3 na nL nF
    refine wpAny_handleBy_cons (codeAny_handlers_test ?_) (by intro q; cases q)
    have test : ∀ {x : Str} {c : Value} {np : Pos}, Names X x c → ∀ {Q : Value → Shared → Prop} {E : Value → Shared → Prop}, Q c { s' with heap := h3 } → wpAny (model X.prog X.w) (X.A.mark (some (.ref a))) (eval (.Name x np) X.env) Q E { s' with heap := h3 } := fun {x c np} hc {Q E} q => by
      obtain ⟨hg, hdbg, hm | ⟨hm, hv, hnn⟩⟩ := hc
      · exact ld_glob (X := X.suite a ((a, oe3) :: (X.pn ++ pins))) S3 hg hm q hdbg
      · exact ld_blt (X := X.suite a ((a, oe3) :: (X.pn ++ pins))) S3 hg hm hv q hnn hdbg
    refine wpAny_Tuple ?_
    refine wpAny_items_cons (test n1 ?_)
    refine wpAny_items_cons (test n2 ?_)
    refine wpAny_items_cons (test n3 ?_)
    refine wpAny_items_nil ⟨by size_fits, ?_⟩
    have kp : ∀ q o, h3.get? q = some o → (h3.push { cls := .type "tuple", data := .seq [c1, c2, c3].toArray }).get? q = some o := fun _ _ z => Heap.get?_push_of_some _ z
    have LT : PySem.W.Looks (model X.prog X.w) (h3.push { cls := .type "tuple", data := .seq [c1, c2, c3].toArray }) (typeOf (.ref a)) cls := fun A Q E s k q => wpAny_typeOf_ref (k _ _ (kp _ _ he3)) (by rw [hz3.1]; exact q)
    have flp := fly_push { cls := .type "tuple", data := .seq [c1, c2, c3].toArray } fl3
    refine (PySem.W.exm_tup3 (M := model X.prog X.w) (J3.kIn.keeps kp) LT (Heap.get?_push_size h3 rfl) hb1).here ?_
    refine codeAny_handlers_suite_as ?_
    refine HandSPX.lands_againZ flp fun h4 fl4 up4 => ?_
    have J4 : Inv X pins σ' H' { s' with heap := h4 } := J.landed nb fl4.1 (((up.trans up3).trans (up_push _)).trans up4) os ag
    obtain ⟨oe4, vs4, he4, hz4, hd4⟩ := fl4.there
    have S4 := J4.suite he4 hd4 na nL nF
    refine store_ok (X := X.suite a ((a, oe4) :: (X.pn ++ pins))) (v := .ref a) S4 hN hi hloc rfl (fun s5 S5 => ?_) (.inr hln)
    refine wpAny_mono ((hsu a oe4 cls d (X.pn ++ pins) hz4 ⟨_, hd4⟩).run [] s5 _ H' _ S5 (hyes a na)) (fun f s6 hsp => ?_) (fun _ _ z => False.elim z)
    have end_ : ∀ {σ6 : L2.St} {H6 : Hp} {Q : Shared → Prop}, Inv (X.suite a ((a, oe4) :: (X.pn ++ pins))) [] σ6 H6 s6 → (∀ s7, Inv X pins (σ6.set i none) H6 s7 → Q s7) →
        wpAny (model X.prog X.w) X.A (do bindName X.env n .none; unbindBehindTheSuite X.env n pos') (fun _ s7 => Q s7) X.xe s6 := fun {σ6 H6 Q} S6 hq => gone_ok (S6.unsuite ok) hN hi hln hq
    cases f with
    | next =>
      obtain ⟨σ6, H6, S6, q6⟩ := hsp
      exact end_ S6 fun s7 J7 => ⟨_, _, J7, q6⟩
    | brk =>
      obtain ⟨σ6, H6, S6, q6⟩ := hsp
      exact end_ S6 fun s7 J7 => ⟨_, _, J7, q6⟩
    | cont =>
      obtain ⟨σ6, H6, S6, q6⟩ := hsp
      exact end_ S6 fun s7 J7 => ⟨_, _, J7, q6⟩
    | ret u =>
      obtain ⟨v6, σ6, H6, S6, r6, q6⟩ := hsp
      exact end_ S6 fun s7 J7 => ⟨_, _, _, J7, r6, q6⟩
  · cases f with
    | next =>
      obtain ⟨σ', H', J', q⟩ := hsp
      exact wpAny_execs_nil ⟨σ', H', J'.ofTry ok, q⟩
    | brk =>
      obtain ⟨σ', H', J', q⟩ := hsp
      exact ⟨σ', H', J'.ofTry ok, q⟩
    | cont =>
      obtain ⟨σ', H', J', q⟩ := hsp
      exact ⟨σ', H', J'.ofTry ok, q⟩
    | ret u =>
      obtain ⟨v, σ', H', J', r, q⟩ := hsp
      exact ⟨v, σ', H', J'.ofTry ok, r, q⟩
end
end PW
/-! P5: tuples that are known to have no dict: +, slices, [::-1], tuple(range(..)); their method index -/
namespace PW
open PySem PySem.Spec PyProof.Rows L2 Evl
/-- a tuple that was made, known to the object: it has no dict -/
def TupN (H : Hp) (a : Addr) (xs : List V) : Prop := ∃ o : Obj, H a = some (.frz o (.tup xs)) ∧ o.cls = .type "tuple" ∧ o.dict = none
theorem TupN.rd {H : Hp} {a : Addr} {xs : List V} (h : TupN H a xs) : Rd H a (.tup xs) := by
  obtain ⟨o, h, _⟩ := h
  exact .inr ⟨o, h⟩
theorem TupN.ext {H H' : Hp} {a : Addr} {xs : List V} (h : TupN H a xs) (e : Ex H H') : TupN H' a xs := by
  obtain ⟨o, h, c⟩ := h
  exact ⟨o, e _ _ h, c⟩
def newN (H : Hp) (Q : VK) (xs : List V) : Prop := ∀ (p : Addr) (o : Obj), H p = none → o.cls = .type "tuple" → o.dict = none → Q (.ref p) (upd H p (.frz o (.tup xs)))
section
variable {X : Cx}
theorem laidN {pins : List (Addr × Obj)} {σ : L2.St} {H : Hp} {s : Shared} {Q : VK} {its : Array Value} {xs : List V} (I : Inv X pins σ H s) (r : Vals xs its.toList) (hz : xs.length ≤ sizeLine) (q : newN H Q xs) :
    EP X pins σ Q (.ref s.heap.objs.size) { s with heap := s.heap.push { cls := .type "tuple", data := .seq its } } := by
  refine ⟨.ref s.heap.objs.size, _, I.laid (t' := s.toks) (o := .frz { cls := .type "tuple", data := .seq its } (.tup xs)) (fun b ob q => Heap.get?_push_of_some _ q) (Nat.le_refl _) ?_, rfl, q _ _ (I.hok.fresh (Nat.le_refl _)) rfl rfl⟩
  exact ⟨Heap.get?_push_size _ rfl, hz, its.toList, r, IsTup.new _ _⟩
/-- t + u, the new one known to have no dict -/
def rCatN (K : PySem.W.Frag) : R2 := fun x y H Q => ∃ a b xs ys, x = .ref a ∧ y = .ref b ∧ SqT K H a xs ∧ SqT K H b ys ∧ xs.length + ys.length ≤ sizeLine ∧
  (xs = [] → Q (.ref b) H) ∧ (xs ≠ [] → ys = [] → Q (.ref a) H) ∧ (xs ≠ [] → ys ≠ [] → newN H Q (xs ++ ys))
theorem op_catN : OpR X (binaryOp .Add) (rCatN X.K) := by
  intro pins s σ H x y v u Q I rx ry h
  obtain ⟨a, b, xs, ys, rfl, rfl, ha, hb, hz, q0, q1, q2⟩ := h
  cases rx
  cases ry
  obtain ⟨its, r1, p1, _⟩ := I.tuple ha
  obtain ⟨its2, r2, p2, _⟩ := I.tuple hb
  by_cases hx : xs = []
  · subst hx
    cases r1
    exact L2.cat_tup0 p1 p2 ⟨.ref b, H, I, rfl, q0 rfl⟩
  · refine HT.cat_tup p1 p2 (fun z => hx (r1.nil_iff.mp z)) (fun z => ⟨.ref a, H, I, rfl, q1 hx (r2.nil_iff.mp z)⟩) (fun z => ?_) (by rw [← r1.length, ← r2.length]; exact hz)
    exact laidN (its := (its ++ its2).toArray) I (r1.append r2) (by rw [List.length_append]; exact hz) (q2 hx fun w => z (r2.nil_iff.mpr w))
/-- t[lo:hi]: the whole of it is t itself -/
def rSlN (K : PySem.W.Frag) : V → Option Int → Option Int → Hp → VK → Prop := fun x lo hi H Q => ∃ a xs, x = .ref a ∧ SqT K H a xs ∧
  (HT.sIx xs.length 0 lo = 0 ∧ HT.sIx xs.length xs.length hi = xs.length → Q (.ref a) H) ∧ (¬ (HT.sIx xs.length 0 lo = 0 ∧ HT.sIx xs.length xs.length hi = xs.length) → newN H Q (cutV xs lo hi))
theorem sl_tupN : SlR X (rSlN X.K) := by
  intro pins s σ H x v vl vu lo hi sl Q I rx hs pl pu h
  obtain ⟨a, xs, rfl, hx, q1, q2⟩ := h
  cases rx
  obtain ⟨its, r, ht, hz⟩ := I.tuple hx
  have hlen : its.toArray.size = xs.length := by rw [List.size_toArray]; exact r.length.symm
  refine ⟨"tuple", _, PyProof.Rows.slot_tuple_getitem.lookup, ht.typeIs, ?_⟩
  by_cases hw : HT.sIx xs.length 0 lo = 0 ∧ HT.sIx xs.length xs.length hi = xs.length
  · exact L2.getItem_tuple_whole ht hs pl pu (by rw [hlen]; exact hw) ⟨.ref a, H, I, rfl, q1 hw⟩
  · refine HT.getItem_tuple_cut ht hs pl pu (by rw [hlen]; exact hw) ?_ (by rw [hlen]; exact hz)
    rw [hlen]
    exact laidN I ((r.drop (HT.sIx xs.length 0 lo)).take (HT.sIx xs.length xs.length hi - HT.sIx xs.length 0 lo)) (Nat.le_trans (cutV_length xs lo hi) hz) (q2 hw)
/-- t.m(e, ..) of such a tuple -/
def tBMT (r : V → List V → Hp → VK → Prop) (to : TE) (t : TA) : TE := fun σ H Q => to σ H fun x H1 => (∃ a xs, x = .ref a ∧ TupN H1 a xs) ∧ t σ H1 fun xs H2 => r x xs H2 Q
variable {o e : Expr} {es : List Expr} {to : TE} {t : TA} {name : Str} {apos cpos : Pos} {id : String} {r : V → List V → Hp → VK → Prop}
theorem pe_bmT (pa : PlainAttrs "tuple") (slot : Slot "tuple" name id) (hty : typeOf (.builtin id) = pure (.type "method_descriptor")) (hm : MtR X id r) (ho : PE X o to) (ha : PA X (e :: es) t)
    (hbase : attributeBase o name X.env (eval o X.env) = eval o X.env := by rfl)
    (hfew : ((backTo cpos (starEach (e :: es) X.env)).all (fun x => !x.1) && (backToKw cpos (keywordEach [] X.env)).all (fun x => x.1.isSome)
      && decide ((e :: es).length + ([] : List Keyword).length + (if ([] : List Keyword).isEmpty then 0 else 1) < 30)) = true := by rfl)
    (hline : (apos.endLine == cpos.line) = true := by rfl) (hs : starEach (e :: es) X.env = (false, eval e X.env) :: starEach es X.env := by rfl) (hplain : (backTo cpos (starEach es X.env)).any (·.1) = false := by rfl) :
    PE X (.Call (.Attribute o name apos) (e :: es) [] cpos) (tBMT r to t) := by
  refine ⟨fun pins s σ H Q I h => ?_⟩
  refine wpAny_Call_method_late hbase hfew hline rfl (thn (ho.run pins s σ H _ I h) fun v s1 ⟨x, H1, I1, r1, ⟨a, xs, ex, oo, hoo, hc, hd⟩, q1⟩ => ?_)
  subst ex
  cases r1
  obtain ⟨hget, _⟩ := (show ObjOk X.prog X.w H1 s1.heap a (.frz oo (.tup xs)) from I1.hok a _ hoo)
  refine ⟨"tuple", id, pa, slot, hty, ⟨oo, hget, hc⟩, fun b e2 => ?_, ?_⟩
  · cases e2
    exact ⟨oo, hget, hd⟩
  have hA := ha.run cpos pins s1 σ H1 _ I1 q1
  rw [hs] at hA ⊢
  refine Calls.callWith_builtin (by show (false || (backTo cpos (starEach es X.env)).any (·.1)) = false; rw [hplain] <;> rfl) (Calls.evalArgs_plain ?_)
  exact thn hA fun us s2 ⟨vs, H2, I2, r2, q2⟩ => hm pins s2 σ H2 (V.ref a) vs _ us Q I2 rfl r2 q2
theorem intsAre_of : ∀ {ns : List Int} {its : List Value}, Vals (ns.map V.int) its → IntsAre its ns := fun h => Vals.ints h
/-- t.index(k) -/
def rIndexT (K : PySem.W.Frag) : V → List V → Hp → VK → Prop := fun x xs H Q => ∃ (a : Addr) (ns : List Int) (k : Int), x = V.ref a ∧ xs = [.int k] ∧ SqT K H a (ns.map V.int) ∧ k ∈ ns ∧ Q (.int (ns.idxOf k : Nat)) H
theorem mt_indexT : MtR X "tuple.index" (rIndexT X.K) := by
  intro pins s σ H x xs v us Q I rx rxs h
  obtain ⟨a, ns, k, rfl, rfl, hs, hk, q⟩ := h
  cases rx
  cases rxs with
  | cons ry rt =>
    rename_i uy ut
    cases rt
    obtain ⟨t, rfl⟩ := ry
    obtain ⟨its, rv, ht, hz⟩ := I.tuple hs
    exact PySem.SeqAt.tuple_index_ints ht (intsAre_of rv) hk ⟨V.int (ns.idxOf k : Nat), H, I.tok _, ⟨_, rfl⟩, q⟩
end
def tRevN (K : PySem.W.Frag) (te : TE) : TE := fun σ H Q => te σ H fun x H1 => ∃ a xs, x = .ref a ∧ SqT K H1 a xs ∧ newN H1 Q xs.reverse
section
variable {X : Cx}
theorem pe_revN {e : Expr} {te : TE} {k : Nat} {p1 p2 p3 pos : Pos} (he : PE X e te) : PE X (.Subscript e (.Slice none none (some (.UnaryOp .USub (.Constant (.int 1) k p1) p2)) p3) pos) (tRevN X.K te) := by
  refine ⟨fun pins s σ H Q I h => ?_⟩
  refine Subscript_ (thn (he.run pins s σ H _ I h) fun v s1 ⟨x, H1, I1, r1, q1⟩ => ?_)
  obtain ⟨a, xs, ex, hx, q⟩ := q1
  subst ex
  cases r1
  have hst : PO X (some (.UnaryOp .USub (.Constant (.int 1) k p1) p2)) (tPart (tUn (rU fun i => .int (-i)) (tC (.int 1)))) := po_some (pe_un un_neg pe_int)
  refine wpAny_Slice (thn (po_none.run pins s1 σ H1 (fun o H2 => o = none ∧ H2 = H1) I1 ⟨rfl, rfl⟩) fun vl s2 ⟨l, H2, I2, pl, el, e2⟩ => ?_)
  subst el e2
  refine thn (po_none.run pins s2 σ H2 (fun o H3 => o = none ∧ H3 = H2) I2 ⟨rfl, rfl⟩) fun vu s3 ⟨u, H3, I3, pu, eu, e3⟩ => ?_
  subst eu e3
  refine thn (hst.run pins s3 σ H3 (fun o H4 => o = some (-1) ∧ H4 = H3) I3 ⟨1, rfl, -1, rfl, rfl, rfl⟩) fun vs s4 ⟨o, H4, I4, ps, eo, e4⟩ => ?_
  subst eo e4
  have I5 : Inv X pins σ H4 { s4 with heap := s4.heap.push { cls := .type "slice", data := .fields #[vl, vu, vs] } } := I4.kept (t' := s4.toks) fun b ob q => Heap.get?_push_of_some _ q
  obtain ⟨its, r, ht, hz⟩ := I5.tuple hx
  have hlen := r.length
  cases pl
  cases pu
  cases ps
  show wpAny (model X.prog X.w) X.A (subscriptTail e (.Slice none none (some (.UnaryOp .USub (.Constant (.int 1) k p1) p2)) p3) (.ref a) (.ref s4.heap.objs.size)) (EP X pins σ Q) X.xe { s4 with heap := s4.heap.push { cls := .type "slice", data := .fields #[.none, .none, .int (-1) _] } }
  refine tail_any (ops := [.ref a, .ref s4.heap.objs.size]) ht.typeIs (PyProof.Rows.slot_tuple_getitem.lookup) ?_ (by with_unfolding_all rfl)
  refine HT.getItem_tuple_rev ht (Heap.IsSliceOf.new _ _ _ _) ?_ (by rw [List.size_toArray]; omega)
  exact laidN (its := its.toArray.toList.reverse.toArray) I5 (by simpa using r.reverse) (by rw [List.length_reverse]; exact hz) q
/-- tuple(range(..)) -/
def tTupRgN (te : L2.St → Hp → (Int → Int → Hp → Prop) → Prop) : TE := fun σ H Q => te σ H fun a b H1 => RgOk a b ∧ newN H1 Q (rgV a b)
variable {te : L2.St → Hp → (Int → Int → Hp → Prop) → Prop} {e : Expr}
theorem pe_tupRgN {p pos : Pos} (hc : X.calm = true) (hg : Gl X "tuple") (hm : X.mg "tuple" = none) (he : PRg X e te) (na : starEach [e] X.env = (false, eval e X.env) :: starEach [] X.env := by rfl) : PE X (.Call (.Name "tuple" p) [e] [] pos) (tTupRgN te) := by
  refine ⟨fun pins s σ H Q I h => ?_⟩
  refine Call_ (ld_blt I hg hm boot_tuple (PyProof.Rows.callWith_type1 (args_cons (thn (he pins s σ H _ I h) fun x s1 ⟨r, a, b, t, u, v, H1, ex, hr, I1, ok, q⟩ => args_nil ?_) na) na))
  subst ex
  obtain ⟨ok, q⟩ := (show RgOk a b ∧ _ from ⟨ok, q⟩)
  obtain ⟨b1, b2, b3, b4, b5⟩ := ok
  refine call_tuple_range (n := (b - a).toNat) (I1.ok.hd hc) hr (small_one b1 b2 b3 b4) (rangeSize_nat a b) b5 fun h' tk acc hk hi => ?_
  have I2 : Inv X pins σ H1 { s1 with heap := h', toks := tk } := I1.kept hk
  have z : (rgV a b).length ≤ sizeLine := by rw [rgV_length, sizeLine_eq]; omega
  exact laidN (s := { s1 with heap := h', toks := tk }) (its := acc) I2 (vals_rg hi) z q
/-- tuple(a list) -/
theorem call_tuple_ofN : CallR X (.type "tuple") (fun xs H Q => ∃ p ys, xs = [.ref p] ∧ SqL X.K H p ys ∧ newN H Q ys) := by
  intro pins s σ H xs us Q I r h
  obtain ⟨p, ys, rfl, hq, q⟩ := h
  obtain ⟨u, rfl, rx⟩ := vals1 r
  cases rx
  obtain ⟨its, r', pl, hz⟩ := I.list hq
  have hlen := r'.length
  refine call_tuple_list pl.isList (fun h' kp => ?_) (by simp only [List.size_toArray] <;> omega)
  have I1 : Inv X pins σ H { s with heap := h' } := I.kept (t' := s.toks) kp
  exact laidN (s := { s with heap := h' }) (its := its.toArray) I1 r' hz q
end
section
variable {K : PySem.W.Frag} {σ : L2.St} {H : Hp} {ta tb te : TE} {xs ys : List V} {x : V}
/-- a tuple without a dict, or an empty one -/
def IsN (xs : List V) (H : Hp) (v : V) : Prop := ∃ p, v = .ref p ∧ Rd H p (.tup xs) ∧ (xs ≠ [] → TupN H p xs)
theorem isN_mono (xs : List V) : Mono (IsN xs) := fun _ _ _ e ⟨p, a, b, c⟩ => ⟨p, a, ex_rd e b, fun h => (c h).ext e⟩
theorem en_of {p : Addr} (h : Ev te σ H (.ref p)) (s : IsN xs H (.ref p)) : EvR te σ H (IsN xs) := er_of h fun H1 e => isN_mono xs _ _ _ e s
theorem en_cat (ha : EvR ta σ H (IsN xs)) (hb : EvR tb σ H (IsN ys)) (hz : xs.length + ys.length ≤ 100000) : EvR (tOp (rCatN K) ta tb) σ H (IsN (xs ++ ys)) := fun H1 e Q q =>
  ha H1 e _ fun v H2 e2 ⟨a, ev, sa, na⟩ => hb H2 (e.trans e2) _ fun u H3 e3 ⟨b, eu, sb, nb⟩ => by
    subst ev eu
    refine ⟨a, b, xs, ys, rfl, rfl, .inl (ex_rd e3 sa), .inl sb, sz_of hz, fun z => ?_, fun z1 z2 => ?_, fun z1 z2 p o hp hc hd => ?_⟩
    · subst z
      exact q _ _ (e2.trans e3) ⟨b, rfl, sb, nb⟩
    · subst z2
      rw [List.append_nil] at q
      exact q _ _ (e2.trans e3) ⟨a, rfl, ex_rd e3 sa, fun h => (na h).ext e3⟩
    · have t : TupN (upd H3 p (.frz o (.tup (xs ++ ys)))) p (xs ++ ys) := ⟨o, upd_same, hc, hd⟩
      exact q _ _ ((e2.trans e3).trans (Ex.new hp)) ⟨p, rfl, t.rd, fun _ => t⟩
theorem en_rev (ha : EvR ta σ H (IsN xs)) : EvR (tRevN K ta) σ H (IsN xs.reverse) := fun H1 e Q q =>
  ha H1 e _ fun v H2 e2 ⟨a, ev, sa, _⟩ => ⟨a, xs, ev, .inl sa, fun p o hp hc hd => by
    have t : TupN (upd H2 p (.frz o (.tup xs.reverse))) p xs.reverse := ⟨o, upd_same, hc, hd⟩
    exact q _ _ (e2.trans (Ex.new hp)) ⟨p, rfl, t.rd, fun _ => t⟩⟩
theorem ev_indexT {ns : List Int} {k : Int} (ha : EvR ta σ H (IsN (ns.map V.int))) (hb : Ev tb σ H (.int k)) (hk : k ∈ ns) : Ev (tBMT (rIndexT K) ta (tCons tb tNil)) σ H (.int (ns.idxOf k : Nat)) := fun H1 e Q q =>
  ha H1 e _ fun v H2 e2 ⟨a, ev, sa, na⟩ => by
    subst ev
    have ne : ns.map V.int ≠ [] := fun z => by
      have : ns = [] := List.map_eq_nil_iff.mp z
      rw [this] at hk
      cases hk
    exact ⟨⟨a, _, rfl, na ne⟩, hb H2 (e.trans e2) _ fun H3 e3 => ⟨a, ns, k, rfl, rfl, .inl (ex_rd e3 sa), hk, q H3 (e2.trans e3)⟩⟩
theorem en_slice {tl tu : TO} {lo hi : Option Int} (ha : EvR ta σ H (IsN xs)) (hl : EvO tl σ H lo) (hu : EvO tu σ H hi) : EvR (tSl (rSlN K) ta tl tu) σ H (IsN (cutV xs lo hi)) := fun H1 e Q q =>
  ha H1 e _ fun v H2 e2 ⟨a, ev, sa, na⟩ => hl H2 (e.trans e2) _ fun H3 e3 => hu H3 ((e.trans e2).trans e3) _ fun H4 e4 => by
    subst ev
    have e24 := e3.trans e4
    refine ⟨a, xs, rfl, .inl (ex_rd e24 sa), fun z => ?_, fun z p o hp hc hd => ?_⟩
    · have ec : cutV xs lo hi = xs := by
        unfold cutV
        rw [z.1, z.2]
        simp
      rw [ec] at q
      exact q _ _ (e2.trans e24) ⟨a, rfl, ex_rd e24 sa, fun h => (na h).ext e24⟩
    · have t : TupN (upd H4 p (.frz o (.tup (cutV xs lo hi)))) p (cutV xs lo hi) := ⟨o, upd_same, hc, hd⟩
      exact q _ _ ((e2.trans e24).trans (Ex.new hp)) ⟨p, rfl, t.rd, fun _ => t⟩
end
end PW
namespace PW
open PySem PySem.Spec PyProof.Rows L2 Evl
/-- a statement of the top -/
def top (i : Nat) : Stmt := PySem.Challenge.pw_pileworn_k55_whole_long_rests_judged.main.body.getD i (.Pass ⟨0, 0, 0, 0⟩)
/-- the limits that the rules speak of -/
structure Lim (mg : Str → Option Value) : Prop where
  plates : ∃ t, mg "MOST_PLATES" = some (.int 10 t)
  away : ∃ t, mg "MOST_AWAY" = some (.int 2 t)
  days : ∃ t, mg "MOST_DAYS" = some (.int 6 t)
  taken : ∃ t, mg "MOST_TAKEN" = some (.int 6 t)
  under : ∃ t, mg "MOST_UNDER" = some (.int 9 t)
/-! ### the words of rows -/
def txt (n : Int) : Str := Str.ofString (toString n)
def readFrom (w : Str) (lo : Int) : Nat → Option Int
  | 0 => none
  | n + 1 => if w = txt lo then some lo else readFrom w (lo + 1) n
def readNum (w : Str) (lo hi : Int) : Option Int := readFrom w lo (hi + 1 - lo).toNat
def optV : Option Int → V
  | none => .non
  | some n => .int n
def spNum : Sp := fun vs H Q _ => ∃ (x : Str) (lo hi : Int), vs = [.str x, .int lo, .int hi] ∧ 0 ≤ lo ∧ lo ≤ 100 ∧ -100 ≤ hi ∧ hi ≤ 100 ∧ ∀ H', Ex H H' → Q (optV (readNum x lo hi)) H'
abbrev sNum : Stmt := top 19
theorem scNum : FnScope ["word", "least", "most", "number"] ["word", "least", "most"] (defScope sNum) := ⟨rfl, rfl, rfl, by decide +kernel, rfl, by decide +kernel, by decide +kernel⟩
section
variable {P : Program} {w : World} {K : PySem.W.Frag} {mg : Str → Option Value} {base : Heap}
theorem ok_num {f : Addr} {fd : FuncData} {j : Nat} (F : Fun K "read_number" "read_number" sNum f fd) (B : Blt mg) :
    FnOk P w K mg base CX0 (j + 1) f fd ["word", "least", "most"] spNum := by
  refine F.ok scNum (fun vs H Q E h => ?_) (fun cdv A outer s H vs Q E hr h => ?_)
  · obtain ⟨x, lo, hi, rfl, _⟩ := h
    rfl
  · obtain ⟨x, lo, hi, rfl, l0, l1, h0, h1, k⟩ := h
    refine ⟨_, pss_cons (ps_for PassesOwn.never rfl (pi_range2 rfl B.range (pa_cons (pv 1) (pa_cons (pe_op op_add (pv 2) pe_int) pa_nil))) (pg_name (i := 3) scNum.nd rfl (Or.inl rfl))
        (pss_one (ps_if (pt_cmpR op_eq (pv 0) (pe_callTy call_str_int (by rfl) B.str bStr (pa_cons (pv 3) pa_nil)) (nomark _)) (pss_one (ps_ret (pv 3))) pss_nil)))
      (pss_one (ps_ret pe_non)), ?_⟩
    refine q_forR2 (lo := lo) (n := hi + 1) (ea_cons (ev_var rfl) (ea_cons (ev_op (ev_var rfl) ev_c rv_I0) ea_nil)) ⟨by omega, by omega, by omega, by omega⟩
      (fun i σ' H' => ∃ y : Option V, σ' = [some (.str x), some (.int lo), some (.int hi), y] ∧ Ex H H' ∧ readNum x lo hi = readFrom x (lo + i) ((hi + 1 - lo).toNat - i))
      (fun H1 e1 => ⟨none, rfl, e1, by simp [readNum]⟩) ?_ ?_
    · rintro i σ' H' hi' ⟨y, rfl, ex, inv⟩
      obtain ⟨m, hm⟩ : ∃ m, (hi + 1 - lo).toNat - i = m + 1 := ⟨(hi + 1 - lo).toNat - i - 1, by omega⟩
      rw [hm] at inv
      have small : (lo + (i : Int)).natAbs.log2 < 1920 := by
        have a : (lo + (i : Int)).natAbs < 2 ^ 64 := by omega
        have b := Nat.log2_lt (n := (lo + (i : Int)).natAbs) (k := 64)
        by_cases z : (lo + (i : Int)).natAbs = 0
        · rw [z]
          decide
        · exact Nat.lt_trans ((b z).mpr a) (by decide)
      refine s_when (et_test (ev_op (ev_var rfl) (ev_cb (ea_cons (ev_var rfl) ea_nil) fun H1 e1 Q1 q1 => ⟨lo + (i : Int), rfl, small, q1 H1 (Ex.refl H1)⟩) (rv_eq rfl))) (fun z H1 e1 => ?_) (fun z H1 e1 => ?_)
      · have z' : x = txt (lo + (i : Int)) := by simpa [txt] using z
        refine s_ret (ev_var rfl) fun H2 e2 => ?_
        have q := k H2 ((ex.trans e1).trans e2)
        rw [inv, readFrom, if_pos z'] at q
        exact q
      · have z' : ¬ x = txt (lo + (i : Int)) := by simpa [txt] using z
        refine ⟨_, rfl, ex.trans e1, ?_⟩
        rw [inv, readFrom, if_neg z']
        have e3 : lo + (i : Int) + 1 = lo + ((i + 1 : Nat) : Int) := by omega
        have e4 : (hi + 1 - lo).toNat - (i + 1) = m := by omega
        rw [e3, e4]
    · rintro σ' H' ⟨y, rfl, ex, inv⟩
      refine s_ret ev_c fun H2 e2 => ?_
      have q := k H2 (ex.trans e2)
      rw [inv, Nat.sub_self] at q
      exact q
end
end PW
namespace PW
open PySem PySem.Spec PyProof.Rows L2 Evl
/-! ### rows of days -/
theorem readFrom_le {x : Str} : ∀ {n : Nat} {lo k : Int}, readFrom x lo n = some k → lo ≤ k ∧ k < lo + n
  | 0, _, _, h => by cases h
  | n + 1, lo, k, h => by
    rw [readFrom] at h
    by_cases z : x = txt lo
    · rw [if_pos z] at h
      cases h
      omega
    · rw [if_neg z] at h
      have := readFrom_le h
      omega
theorem readNum_le {x : Str} {lo hi k : Int} (h : readNum x lo hi = some k) : lo ≤ k ∧ k ≤ hi := by
  have := readFrom_le h
  omega
def cutW (ws : List Str) (lo hi : Option Int) : List Str := (ws.drop (HT.sIx ws.length 0 lo)).take (HT.sIx ws.length ws.length hi - HT.sIx ws.length 0 lo)
theorem cutV_strs (ws : List Str) (lo hi : Option Int) : cutV (ws.map V.str) lo hi = (cutW ws lo hi).map V.str := by simp [cutV, cutW]
theorem cutW_le (ws : List Str) (lo hi : Option Int) : (cutW ws lo hi).length ≤ ws.length := by
  unfold cutW
  rw [List.length_take, List.length_drop]
  omega
theorem word_at {ws : List Str} {i : Nat} (h : i < ws.length) : atI (ws.map V.str) (i : Int) = some (.str (ws.getD i "")) :=
  atI_nat (by simp [List.getElem?_eq_getElem h])
theorem word_last {ws : List Str} (h : 0 < ws.length) : atI (ws.map V.str) (-1) = some (.str (ws.getD (ws.length - 1) "")) := by
  obtain ⟨l, x, rfl⟩ : ∃ l x, ws = l ++ [x] := ⟨ws.dropLast, ws.getLast (by intro z; rw [z] at h; simp at h), (List.dropLast_concat_getLast _).symm⟩
  rw [List.map_append]
  have : (l ++ [x]).getD ((l ++ [x]).length - 1) "" = x := by simp
  rw [this]
  exact atI_last _ _
theorem dp_strs {K : PySem.W.Frag} {H : Hp} : ∀ ws : List Str, DpAll K H (ws.map V.str) (ws.map PyData.str)
  | [] => .nil
  | x :: ws => .cons (.str x) (dp_strs ws)
def strsD (ws : List Str) : PyData := .list (ws.map PyData.str)
def OkW (ws : List Str) : Prop := ∀ x ∈ ws, PyData.strOk x = true
theorem strs_lay : ∀ {ws : List Str}, OkW ws → PyData.canLayAll0 (ws.map PyData.str) = true ∧ PyData.depthAll (ws.map PyData.str) = 0
  | [], _ => ⟨rfl, rfl⟩
  | x :: ws, h => by
    have r := strs_lay (ws := ws) fun y hy => h y (List.mem_cons_of_mem _ hy)
    have a := h x List.mem_cons_self
    constructor
    · show (PyData.strOk x && PyData.canLayAll0 (ws.map PyData.str)) = true
      rw [a, r.1]
      rfl
    · show max 0 (PyData.depthAll (ws.map PyData.str)) = 0
      rw [r.2]
      rfl
theorem strs_shaped {ws : List Str} (h : OkW ws) : SeqAt.shaped (strsD ws) = true := by
  have r := strs_lay h
  show (PyData.canLayAll0 (ws.map PyData.str) && decide (PyData.depthAll (ws.map PyData.str) + 1 ≤ 64)) = true
  rw [r.1, r.2]
  rfl
theorem OkW.cut {ws : List Str} (h : OkW ws) (lo hi : Option Int) : OkW (cutW ws lo hi) := fun x hx => h x (List.mem_of_mem_drop (List.mem_of_mem_take hx))
structure DayD where
  word : Str
  least : Int
  most : Int
  depth : Int
  turned : Bool
def dayF (d : DayD) : List (Str × V) := [("word", .str d.word), ("least", .int d.least), ("most", .int d.most), ("depth", .int d.depth), ("turned", .bl d.turned)]
/-- at p a day that tells this -/
def DayAt (CD : Addr) (H : Hp) (p : Addr) (d : DayD) : Prop := ∃ dx, H p = some (.ins CD dx (dayF d))
def DayV (CD : Addr) (H : Hp) : Option DayD → V → Prop
  | none, v => v = .non
  | some d, v => ∃ p, v = .ref p ∧ DayAt CD H p d
theorem DayV.keep {CD : Addr} {H H' : Hp} {v : V} : ∀ {o : Option DayD}, DayV CD H o v → (∀ p dx d, H p = some (.ins CD dx (dayF d)) → H' p = some (.ins CD dx (dayF d))) → DayV CD H' o v
  | none, h, _ => h
  | some _, ⟨p, e, dx, h⟩, k => ⟨p, e, dx, k _ _ _ h⟩
theorem DayV.ext {CD : Addr} {H H' : Hp} {v : V} {o : Option DayD} (h : DayV CD H o v) (e : Ex H H') : DayV CD H' o v := h.keep fun _ _ _ q => e _ _ q
def depthOf (ws : List Str) : Option Int := if PyData.eqv (strsD ws) (strsD ["top"]) then some 0 else if PyData.eqv (strsD ws) (strsD ["bottom"]) then some 10
  else if decide (ws.length = 2) && decide (V.str (ws.getD 0 "") = V.str "under") then readNum (ws.getD 1 "") 1 9 else none
def cutOf (ws : List Str) : Option DayD := if ws.length = 2 then (readNum (ws.getD 1 "") 1 9).map fun d => ⟨"cut", 0, 0, d, false⟩ else none
def takeTail (ws : List Str) (l : Int) : Option DayD := match readNum (ws.getD 3 "") l 6, depthOf (cutW ws (some 5) (some (-1))) with
  | some m, some e => if inV (.str (ws.getD (ws.length - 1) "")) [.str "kept", .str "turned"] then some ⟨"take", l, m, e, decide (V.str (ws.getD (ws.length - 1) "") = V.str "turned")⟩ else none
  | _, _ => none
def takeOf (ws : List Str) : Option DayD := if decide ((ws.length : Int) < 7) || (!decide (V.str (ws.getD 0 "") = V.str "take") || (!decide (V.str (ws.getD 2 "") = V.str "to") || !decide (V.str (ws.getD 4 "") = V.str "back"))) then none
  else (readNum (ws.getD 1 "") 0 6).bind (takeTail ws)
def dayOf (s : Str) : Option DayD := if inV (.str s) [.str "turn", .str "rest"] then some ⟨s, 0, 0, 0, false⟩
  else if V.str ((Txt.split s " ").getD 0 "") = V.str "cut" then cutOf (Txt.split s " ") else takeOf (Txt.split s " ")
def isDay (s : Str) : Bool := (dayOf s).isSome
def firstOf (s : Str) : Option (Int × Int) := if (!decide (V.int ((Txt.split s " ").length : Int) = V.int 4)) || (!decide (V.str ((Txt.split s " ").getD 0 "") = V.str "plates") || !decide (V.str ((Txt.split s " ").getD 2 "") = V.str "away")) then none
  else match readNum ((Txt.split s " ").getD 1 "") 2 10, readNum ((Txt.split s " ").getD 3 "") 0 2 with
    | some p, some q => some (p, q)
    | _, _ => none
theorem rows_good : (["take 0 to 6 back under 9 turned", "take 6 to 6 back top kept", "cut 9", "turn", "rest", "cut 1"] : List Str).all isDay = true ∧ firstOf "plates 10 away 2" = some (10, 2) := by decide +kernel
section
variable {K : PySem.W.Frag} {σ : L2.St} {H : Hp} {te tb : TE}
theorem el_split {a b : Str} (ha : Ev te σ H (.str a)) (hb : Ev tb σ H (.str b)) (hz : a.length ≤ 1000) (h : (b.length == 0) = false) :
    EvL (tM1 (fun x xs H Q => ∃ a b, x = .str a ∧ xs = [.str b] ∧ (b.length == 0) = false ∧ a.length + 2 ≤ sizeLine ∧ rNewStrs (Txt.split a b) H Q) te tb) σ H ((Txt.split a b).map V.str) := fun H1 e Q q =>
  ha H1 e _ fun H2 e2 => ⟨⟨a, rfl⟩, hb H2 (e.trans e2) _ fun H3 e3 => ⟨a, b, rfl, rfl, h, Nat.le_trans (show a.length + 2 ≤ 1002 by omega) (by decide), fun p hp =>
    q p _ (fresh_back (e2.trans e3) hp) ((e2.trans e3).trans (Ex.new hp)) upd_same⟩⟩
theorem kit_str : PySem.W.kitOne K (.type "str") (.type "str") = some true := by
  unfold PySem.W.kitOne
  rw [if_pos (by decide)]
end
/-- a value that is no text -/
def NoStr (K : PySem.W.Frag) (H : Hp) (v : V) : Prop := ∃ t, (∀ H1, Ex H H1 → TyX K H1 v t) ∧ PySem.W.kitOne K t (.type "str") = some false
def spDayI (CD : Addr) : Sp := fun vs H Q _ => ∃ (x dx : Addr) (d : DayD), vs = [.ref x, .str d.word, .int d.least, .int d.most, .int d.depth, .bl d.turned] ∧ H x = some (.ins CD dx []) ∧ Q .non (upd H x (.ins CD dx (dayF d)))
def spDepth (K : PySem.W.Frag) : Sp := fun vs H Q _ => ∃ (p : Addr) (ws : List Str), vs = [.ref p] ∧ SqL K H p (ws.map V.str) ∧ ws.length ≤ 1000 ∧ OkW ws ∧ ∀ H', Ex H H' → Q (optV (depthOf ws)) H'
def spCut (K : PySem.W.Frag) (CD : Addr) : Sp := fun vs H Q _ => ∃ (p : Addr) (ws : List Str), vs = [.ref p] ∧ SqL K H p (ws.map V.str) ∧ ws.length ≤ 1000 ∧ OkW ws ∧ ∀ u H', Ex H H' → DayV CD H' (cutOf ws) u → Q u H'
def spTake (K : PySem.W.Frag) (CD : Addr) : Sp := fun vs H Q _ => ∃ (p : Addr) (ws : List Str), vs = [.ref p] ∧ SqL K H p (ws.map V.str) ∧ ws.length ≤ 1000 ∧ OkW ws ∧ ∀ u H', Ex H H' → DayV CD H' (takeOf ws) u → Q u H'
def spDay (K : PySem.W.Frag) (CD : Addr) : Sp := fun vs H Q _ => ∃ v : V, vs = [v] ∧ ((∃ s : Str, v = .str s ∧ s.length ≤ 1000 ∧ (Txt.split s " ").length ≤ 1000 ∧ OkW (Txt.split s " ") ∧ ∀ u H', Ex H H' → DayV CD H' (dayOf s) u → Q u H') ∨
  (NoStr K H v ∧ ∀ H', Ex H H' → Q .non H'))
def spFirst (K : PySem.W.Frag) : Sp := fun vs H Q _ => ∃ v : V, vs = [v] ∧ ((∃ s : Str, v = .str s ∧ s.length ≤ 1000 ∧ (Txt.split s " ").length ≤ 1000 ∧ OkW (Txt.split s " ") ∧
    match firstOf s with
    | none => ∀ H', Ex H H' → Q .non H'
    | some (p, q) => ∀ t H', H t = none → Ex H H' → H' t = some (.tup [.int p, .int q]) → Q (.ref t) H') ∨
  (NoStr K H v ∧ ∀ H', Ex H H' → Q .non H'))
abbrev sDayI : Stmt := inClass (top 21) 0
abbrev sDepth : Stmt := top 25
abbrev sCut : Stmt := top 23
abbrev sTake : Stmt := top 24
abbrev sDay : Stmt := top 22
abbrev sFirst : Stmt := top 31
theorem scDayI : FnScope ["self", "word", "least", "most", "depth", "turned"] ["self", "word", "least", "most", "depth", "turned"] (defScope sDayI) := ⟨rfl, rfl, rfl, by decide +kernel, rfl, by decide +kernel, by decide +kernel⟩
theorem scDepth : FnScope ["words"] ["words"] (defScope sDepth) := ⟨rfl, rfl, rfl, by decide +kernel, rfl, by decide +kernel, by decide +kernel⟩
theorem scCut : FnScope ["words", "depth"] ["words"] (defScope sCut) := ⟨rfl, rfl, rfl, by decide +kernel, rfl, by decide +kernel, by decide +kernel⟩
theorem scTake : FnScope ["words", "least", "most", "depth"] ["words"] (defScope sTake) := ⟨rfl, rfl, rfl, by decide +kernel, rfl, by decide +kernel, by decide +kernel⟩
theorem scDay : FnScope ["row", "words"] ["row"] (defScope sDay) := ⟨rfl, rfl, rfl, by decide +kernel, rfl, by decide +kernel, by decide +kernel⟩
theorem scFirst : FnScope ["row", "words", "plates", "away"] ["row"] (defScope sFirst) := ⟨rfl, rfl, rfl, by decide +kernel, rfl, by decide +kernel, by decide +kernel⟩
theorem optV_none {o : Option Int} : (optV o = V.non) ↔ o = none := by
  cases o with
  | none => simp [optV]
  | some n => simp [optV]
section
variable {P : Program} {w : World} {K : PySem.W.Frag} {mg : Str → Option Value} {base : Heap}
structure Num (K : PySem.W.Frag) (mg : Str → Option Value) (f : Addr) (fd : FuncData) : Prop where
  F : Fun K "read_number" "read_number" sNum f fd
  b : Binds K fd ["word", "least", "most"] []
  m : mg "read_number" = some (.ref f)
theorem num_ev {te tl th : TE} {σ : L2.St} {H : Hp} {x : Str} {lo hi : Int} {E : XK} (ha : Ev te σ H (.str x)) (hb : Ev tl σ H (.int lo)) (hc : Ev th σ H (.int hi)) (h : 0 ≤ lo ∧ lo ≤ 100 ∧ -100 ≤ hi ∧ hi ≤ 100) :
    Ev (tCall spNum [] E (tCons te (tCons tl (tCons th tNil)))) σ H (optV (readNum x lo hi)) :=
  ev_call (ea_cons ha (ea_cons hb (ea_cons hc ea_nil))) fun H1 _ Q q _ => ⟨x, lo, hi, rfl, h.1, h.2.1, h.2.2.1, h.2.2.2, fun H2 e2 => q H2 e2⟩
/-- the class Day -/
structure Dy (K : PySem.W.Frag) (mg : Str → Option Value) (CD fI : Addr) (dI : FuncData) : Prop where
  F : Fun K "__init__" "Day.__init__" sDayI fI dI
  b : Binds K dI ["self", "word", "least", "most", "depth", "turned"] []
  M : Mk K CD fI
  m : mg "Day" = some (.ref CD)
  cl : Cls K CD
  n0 : NoAttr K CD "word"
  n1 : NoAttr K CD "least"
  n2 : NoAttr K CD "most"
  n3 : NoAttr K CD "depth"
  n4 : NoAttr K CD "turned"
theorem putN {f g : Str} {u v : V} {r : List (Str × V)} (h : decide (g = f) = false) : putF f v ((g, u) :: r) = (g, u) :: putF f v r := by
  rw [putF, if_neg (of_decide_eq_false h)]
theorem ok_dayI {CD fI : Addr} {dI : FuncData} {j : Nat} (D : Dy K mg CD fI dI) : FnOk P w K mg base CX0 (j + 1) fI dI ["self", "word", "least", "most", "depth", "turned"] (spDayI CD) := by
  refine D.F.ok scDayI (fun vs H Q E h => ?_) (fun cdv A outer s H vs Q E hr h => ?_)
  · obtain ⟨x, dx, d, rfl, _⟩ := h
    rfl
  · obtain ⟨x, dx, d, rfl, hx, k⟩ := h
    refine ⟨_, (pss_cons (ps_fld (pv 0) (pv 1) rfl)
      (pss_cons (ps_fld (pv 0) (pv 2) rfl)
      (pss_cons (ps_fld (pv 0) (pv 3) rfl)
      (pss_cons (ps_fld (pv 0) (pv 4) rfl)
      (pss_one (ps_fld (pv 0) (pv 5) rfl)))))), ?_⟩
    refine ⟨.str d.word, rfl, .ref x, rfl, x, CD, dx, [], rfl, hx, D.cl, D.n0, by decide, ?_⟩
    rw [show putF "word" (V.str d.word) [] = ([("word", V.str d.word)] : List (Str × V)) from rfl]
    refine ⟨.int d.least, rfl, .ref x, rfl, x, CD, dx, _, rfl, upd_same, D.cl, D.n1, (by show 1 < 1000; decide), ?_⟩
    rw [putN (by decide +kernel), show ∀ v, putF "least" v [] = ([("least", v)] : List (Str × V)) from fun v => rfl, upd_upd]
    refine ⟨.int d.most, rfl, .ref x, rfl, x, CD, dx, _, rfl, upd_same, D.cl, D.n2, (by show 2 < 1000; decide), ?_⟩
    rw [putN (by decide +kernel), putN (by decide +kernel), show ∀ v, putF "most" v [] = ([("most", v)] : List (Str × V)) from fun v => rfl, upd_upd]
    refine ⟨.int d.depth, rfl, .ref x, rfl, x, CD, dx, _, rfl, upd_same, D.cl, D.n3, (by show 3 < 1000; decide), ?_⟩
    rw [putN (by decide +kernel), putN (by decide +kernel), putN (by decide +kernel), show ∀ v, putF "depth" v [] = ([("depth", v)] : List (Str × V)) from fun v => rfl, upd_upd]
    refine ⟨.bl d.turned, rfl, .ref x, rfl, x, CD, dx, _, rfl, upd_same, D.cl, D.n4, (by show 4 < 1000; decide), ?_⟩
    rw [putN (by decide +kernel), putN (by decide +kernel), putN (by decide +kernel), putN (by decide +kernel), show ∀ v, putF "turned" v [] = ([("turned", v)] : List (Str × V)) from fun v => rfl, upd_upd]
    exact k
/-- Day(..): a new day -/
theorem er_day {CD : Addr} {ta : TA} {σ : L2.St} {H : Hp} {d : DayD} {E : XK} (h : EvA ta σ H [.str d.word, .int d.least, .int d.most, .int d.depth, .bl d.turned]) : EvR (tMake CD (spDayI CD) [] E ta) σ H (fun H v => DayV CD H (some d) v) := fun H1 e1 Q q =>
  h H1 e1 _ fun H2 e2 x dx nx ndx ne => ⟨x, dx, d, rfl, upd_same, rfl, q _ _ (fun b o e => by
    have q2 := e2 _ _ e
    rw [upd_upd, upd_ne (ne_of_none q2 nx), upd_ne (ne_of_none q2 ndx)]
    exact q2) ⟨x, rfl, dx, upd_same⟩⟩
theorem ok_depth {f fn : Addr} {fd fnd : FuncData} {j : Nat} (F : Fun K "read_depth" "read_depth" sDepth f fd) (B : Blt mg) (L : Lim mg) (N : Num K mg fn fnd) :
    FnOk P w K mg base CX0 (j + 2) f fd ["words"] (spDepth K) := by
  have GN : FnOk P w K mg base CX0 (j + 1) fn fnd ["word", "least", "most"] spNum := ok_num N.F B
  obtain ⟨tU, mU⟩ := L.under
  obtain ⟨tP, mP⟩ := L.plates
  refine F.ok scDepth (fun vs H Q E h => ?_) (fun cdv A outer s H vs Q E hr h => ?_)
  · obtain ⟨p, ws, rfl, _⟩ := h
    rfl
  · obtain ⟨p, ws, rfl, hS, hz, ok, k⟩ := h
    have hu : A.units + 3 + 64 < cLine := hr.units
    have l1 : (ws.map V.str).length = ws.length := List.length_map ..
    refine ⟨_, (pss_cons (ps_if (pt_cmpR (op_eqD hu) (pv 0) (pe_lst (pa_cons pe_str pa_nil)) (nomark _)) (pss_one (ps_ret pe_int)) pss_nil)
      (pss_cons (ps_if (pt_cmpR (op_eqD hu) (pv 0) (pe_lst (pa_cons pe_str pa_nil)) (nomark _)) (pss_one (ps_ret (pe_glob (v := .int 10) (by rfl) mP ⟨_, rfl⟩))) pss_nil)
      (pss_cons (ps_if (pw_and (pt_cmpR op_eq (pe_callB call_len_seq (by rfl) B.len PySem.boot_len (pa_cons (pv 0) pa_nil)) pe_int (nomark _)) (pw_and1 (pt_cmpR op_eq (pe_ix ix_list (pv 0) pe_int (fun _ _ => rfl)) pe_str (nomark _)))).pt (pss_one (ps_ret (pe_call GN hr (by rfl) N.m N.F.kp N.b .nil pass0 (pa_cons (pe_ix ix_list (pv 0) pe_int (fun _ _ => rfl)) (pa_cons pe_int (pa_cons (pe_glob (v := .int 9) (by rfl) mU ⟨_, rfl⟩) pa_nil)))))) pss_nil)
      (pss_one (ps_ret pe_non))))), ?_⟩
    refine q_when (b := PyData.eqv (strsD ws) (strsD ["top"])) (et_test (ev_eqDL (d := strsD ws) (e := strsD ["top"]) (ev_var rfl) (el_lst (vs := (["top"] : List Str).map V.str) (ea_cons ev_c ea_nil) (Nat.le_of_ble_eq_true rfl)) (.lst hS (dp_strs ws)) (fun H9 p _ hp => .lst (sq_of hp) (dp_strs _)) (strs_shaped ok) (by decide +kernel))) (fun z H1 e1 => ?_) (fun z H1 e1 => ?_)
    · refine s_ret ev_c fun H2 e2 => ?_
      have q := k H2 (e1.trans e2)
      unfold depthOf at q
      rw [if_pos z] at q
      exact q
    have hS1 := ex_l e1 hS
    refine q_when (b := PyData.eqv (strsD ws) (strsD ["bottom"])) (et_test (ev_eqDL (d := strsD ws) (e := strsD ["bottom"]) (ev_var rfl) (el_lst (vs := (["bottom"] : List Str).map V.str) (ea_cons ev_c ea_nil) (Nat.le_of_ble_eq_true rfl)) (.lst hS1 (dp_strs ws)) (fun H9 p _ hp => .lst (sq_of hp) (dp_strs _)) (strs_shaped ok) (by decide +kernel))) (fun z2 H2 e2 => ?_) (fun z2 H2 e2 => ?_)
    · refine s_ret ev_c fun H3 e3 => ?_
      have q := k H3 ((e1.trans e2).trans e3)
      unfold depthOf at q
      rw [if_neg (by rw [z]; decide), if_pos z2] at q
      exact q
    have hS2 := ex_l e2 hS1
    refine q_when (b := decide (ws.length = 2) && decide (V.str (ws.getD 0 "") = V.str "under")) (et_and (et_is (et_test (ev_op (ev_len (ev_var rfl) hS2) ev_c (rv_eq rfl))) (by rw [l1]; simp; omega))
        (fun z3 => et_test (ev_op (ev_op (ev_var rfl) ev_c (rv_ixL hS2 (word_at (i := 0) (by have := of_decide_eq_true z3; omega)))) ev_c (rv_eq rfl)))) (fun z3 H3 e3 => ?_) (fun z3 H3 e3 => ?_)
    · have two : ws.length = 2 := of_decide_eq_true (Bool.and_eq_true_iff.mp z3).1
      have hS3 := ex_l e3 hS2
      refine s_ret (num_ev (ev_op (ev_var rfl) ev_c (rv_ixL hS3 (word_at (i := 1) (by omega)))) ev_c ev_c (by decide)) fun H4 e4 => ?_
      have q := k H4 (((e1.trans e2).trans e3).trans e4)
      unfold depthOf at q
      rw [if_neg (by rw [z]; decide), if_neg (by rw [z2]; decide), if_pos z3] at q
      exact q
    · refine s_ret ev_c fun H4 e4 => ?_
      have q := k H4 (((e1.trans e2).trans e3).trans e4)
      unfold depthOf at q
      rw [if_neg (by rw [z]; decide), if_neg (by rw [z2]; decide), if_neg (by rw [z3]; decide)] at q
      exact q
theorem ok_cut {f fn CD fI : Addr} {fd fnd dI : FuncData} {j : Nat} (F : Fun K "read_cut" "read_cut" sCut f fd) (B : Blt mg) (L : Lim mg) (N : Num K mg fn fnd) (D : Dy K mg CD fI dI) :
    FnOk P w K mg base CX0 (j + 3) f fd ["words"] (spCut K CD) := by
  have GN : FnOk P w K mg base CX0 (j + 2) fn fnd ["word", "least", "most"] spNum := ok_num N.F B
  have GI : FnOk P w K mg base CX0 (j + 1) fI dI ["self", "word", "least", "most", "depth", "turned"] (spDayI CD) := ok_dayI D
  obtain ⟨tU, mU⟩ := L.under
  refine F.ok scCut (fun vs H Q E h => ?_) (fun cdv A outer s H vs Q E hr h => ?_)
  · obtain ⟨p, ws, rfl, _⟩ := h
    rfl
  · obtain ⟨p, ws, rfl, hS, hz, ok, k⟩ := h
    have l1 : (ws.map V.str).length = ws.length := List.length_map ..
    refine ⟨_, (pss_cons (ps_if (pt_cmpR op_ne (pe_callB call_len_seq (by rfl) B.len PySem.boot_len (pa_cons (pv 0) pa_nil)) pe_int (nomark _)) (pss_one (ps_ret pe_non)) pss_nil)
      (pss_cons (ps_set (i := 1) scCut.nd rfl (.inl rfl) (pe_call GN hr (by rfl) N.m N.F.kp N.b .nil pass0 (pa_cons (pe_ix ix_list (pv 0) pe_int (fun _ _ => rfl)) (pa_cons pe_int (pa_cons (pe_glob (v := .int 9) (by rfl) mU ⟨_, rfl⟩) pa_nil)))))
      (pss_cons (ps_if (pt_cmpR op_isN (pv 1) pe_non (nomark _)) (pss_one (ps_ret pe_non)) pss_nil)
      (pss_one (ps_ret (pe_make D.M GI hr (by rfl) D.m D.b .nil pass0 (pa_cons pe_str (pa_cons pe_int (pa_cons pe_int (pa_cons (pv 1) (pa_cons pe_bl pa_nil))))))))))), ?_⟩
    refine q_when (b := !decide (ws.length = 2)) (et_is (et_test (ev_op (ev_len (ev_var rfl) hS) ev_c (rv_ne rfl))) (by rw [l1]; simp; omega)) (fun z H1 e1 => ?_) (fun z H1 e1 => ?_)
    · have two : ¬ ws.length = 2 := by simpa using z
      refine s_ret ev_c fun H2 e2 => ?_
      have q := k .non H2 (e1.trans e2)
      unfold cutOf at q
      rw [if_neg two] at q
      exact q rfl
    have two : ws.length = 2 := by simpa using z
    have hS1 := ex_l e1 hS
    have def_ : cutOf ws = (readNum (ws.getD 1 "") 1 9).map fun d => ⟨"cut", 0, 0, d, false⟩ := by
      unfold cutOf
      rw [if_pos two]
    refine q_asg (num_ev (ev_op (ev_var rfl) ev_c (rv_ixL hS1 (word_at (i := 1) (by omega)))) ev_c ev_c (by decide)) fun H2 e2 => ?_
    cases hl : readNum (ws.getD 1 "") 1 9 with
    | none =>
      rw [hl] at def_
      refine q_when (b := true) (et_is (et_test (ev_isN (x := .non) (ev_var rfl))) rfl) (fun _ H3 e3 => ?_) (fun z => nomatch z)
      refine s_ret ev_c fun H4 e4 => ?_
      have q := k .non H4 (((e1.trans e2).trans e3).trans e4)
      rw [def_] at q
      exact q rfl
    | some l =>
      rw [hl] at def_
      refine q_when (b := false) (et_is (et_test (ev_isN (x := .int l) (ev_var rfl))) (by simp)) (fun z => nomatch z) fun _ H3 e3 => ?_
      refine s_retR (er_day (d := ⟨"cut", 0, 0, l, false⟩) (ea_cons ev_c (ea_cons ev_c (ea_cons ev_c (ea_cons (ev_var rfl) (ea_cons ev_c ea_nil)))))) fun v H4 e4 r => ?_
      have q := k v H4 (((e1.trans e2).trans e3).trans e4)
      rw [def_] at q
      exact q r
theorem ok_take {f fn fe CD fI : Addr} {fd fnd fed dI : FuncData} {j : Nat} (F : Fun K "read_take" "read_take" sTake f fd) (B : Blt mg) (L : Lim mg) (N : Num K mg fn fnd) (D : Dy K mg CD fI dI)
    (FE : Fun K "read_depth" "read_depth" sDepth fe fed) (bE : Binds K fed ["words"] []) (mE : mg "read_depth" = some (.ref fe)) :
    FnOk P w K mg base CX0 (j + 3) f fd ["words"] (spTake K CD) := by
  have GN : FnOk P w K mg base CX0 (j + 2) fn fnd ["word", "least", "most"] spNum := ok_num N.F B
  have GI : FnOk P w K mg base CX0 (j + 1) fI dI ["self", "word", "least", "most", "depth", "turned"] (spDayI CD) := ok_dayI D
  have GE : FnOk P w K mg base CX0 (j + 2) fe fed ["words"] (spDepth K) := ok_depth FE B L N
  obtain ⟨tT, mT⟩ := L.taken
  refine F.ok scTake (fun vs H Q E h => ?_) (fun cdv A outer s H vs Q E hr h => ?_)
  · obtain ⟨p, ws, rfl, _⟩ := h
    rfl
  · obtain ⟨p, ws, rfl, hS, hz, ok, k⟩ := h
    have l1 : (ws.map V.str).length = ws.length := List.length_map ..
    refine ⟨_, (pss_cons (ps_if (pw_or (pt_cmpR op_lt (pe_callB call_len_seq (by rfl) B.len PySem.boot_len (pa_cons (pv 0) pa_nil)) pe_int (nomark _)) (pw_or (pt_cmpR op_ne (pe_ix ix_list (pv 0) pe_int (fun _ _ => rfl)) pe_str (nomark _)) (pw_or (pt_cmpR op_ne (pe_ix ix_list (pv 0) pe_int (fun _ _ => rfl)) pe_str (nomark _)) (pw_or1 (pt_cmpR op_ne (pe_ix ix_list (pv 0) pe_int (fun _ _ => rfl)) pe_str (nomark _)))))).pt (pss_one (ps_ret pe_non)) pss_nil)
      (pss_cons (ps_set (i := 1) scTake.nd rfl (.inl rfl) (pe_call GN hr (by rfl) N.m N.F.kp N.b .nil pass0 (pa_cons (pe_ix ix_list (pv 0) pe_int (fun _ _ => rfl)) (pa_cons pe_int (pa_cons (pe_glob (v := .int 6) (by rfl) mT ⟨_, rfl⟩) pa_nil)))))
      (pss_cons (ps_if (pt_cmpR op_isN (pv 1) pe_non (nomark _)) (pss_one (ps_ret pe_non)) pss_nil)
      (pss_cons (ps_set (i := 2) scTake.nd rfl (.inl rfl) (pe_call GN hr (by rfl) N.m N.F.kp N.b .nil pass0 (pa_cons (pe_ix ix_list (pv 0) pe_int (fun _ _ => rfl)) (pa_cons (pv 1) (pa_cons (pe_glob (v := .int 6) (by rfl) mT ⟨_, rfl⟩) pa_nil)))))
      (pss_cons (ps_set (i := 3) scTake.nd rfl (.inl rfl) (pe_call GE hr (by rfl) mE FE.kp bE .nil pass0 (pa_cons (pe_slice sl_list (pv 0) (po_some pe_int) (po_some (pe_un un_neg pe_int))) pa_nil)))
      (pss_cons (ps_if (pw_or (pt_cmpR op_isN (pv 2) pe_non (nomark _)) (pw_or (pt_cmpR op_isN (pv 3) pe_non (nomark _)) (pw_or1 (pt_cmpR op_notIn_seq (pe_ix ix_list (pv 0) (pe_un un_neg pe_int) (fun _ _ => rfl)) (pe_tup (pa_cons pe_str (pa_cons pe_str pa_nil))) rfl)))).pt (pss_one (ps_ret pe_non)) pss_nil)
      (pss_one (ps_ret (pe_make D.M GI hr (by rfl) D.m D.b .nil pass0 (pa_cons pe_str (pa_cons (pv 1) (pa_cons (pv 2) (pa_cons (pv 3) (pa_cons (pe_cmpR op_eq (pe_ix ix_list (pv 0) (pe_un un_neg pe_int) (fun _ _ => rfl)) pe_str (nomark _)) pa_nil)))))))))))))), ?_⟩
    refine q_when (b := decide ((ws.length : Int) < 7) || (!decide (V.str (ws.getD 0 "") = V.str "take") || (!decide (V.str (ws.getD 2 "") = V.str "to") || !decide (V.str (ws.getD 4 "") = V.str "back"))))
      (et_or (et_test (ev_op (ev_is (ev_len (ev_var rfl) hS) (by rw [l1])) ev_c rv_I0)) (fun z1 => ?_)) (fun z H1 e1 => ?_) (fun z H1 e1 => ?_)
    · have many : 7 ≤ ws.length := by
        have := of_decide_eq_false z1
        omega
      exact et_or (et_test (ev_op (ev_op (ev_var rfl) ev_c (rv_ixL hS (word_at (i := 0) (by omega)))) ev_c (rv_ne rfl))) fun _ => et_or (et_test (ev_op (ev_op (ev_var rfl) ev_c (rv_ixL hS (word_at (i := 2) (by omega)))) ev_c (rv_ne rfl))) fun _ => et_test (ev_op (ev_op (ev_var rfl) ev_c (rv_ixL hS (word_at (i := 4) (by omega)))) ev_c (rv_ne rfl))
    · refine s_ret ev_c fun H2 e2 => ?_
      have q := k .non H2 (e1.trans e2)
      unfold takeOf at q
      rw [if_pos z] at q
      exact q rfl
    have many : 7 ≤ ws.length := by
      have := of_decide_eq_false (Bool.or_eq_false_iff.mp z).1
      omega
    have def_ : takeOf ws = (readNum (ws.getD 1 "") 0 6).bind (takeTail ws) := by
      unfold takeOf
      rw [if_neg (by rw [z]; decide)]
    refine q_asg (num_ev (ev_op (ev_var rfl) ev_c (rv_ixL (ex_l e1 hS) (word_at (i := 1) (by omega)))) ev_c ev_c (by decide)) fun H2 e2 => ?_
    have e02 := e1.trans e2
    cases hl : readNum (ws.getD 1 "") 0 6 with
    | none =>
      rw [hl] at def_
      refine q_when (b := true) (et_is (et_test (ev_isN (x := .non) (ev_var rfl))) rfl) (fun _ H3 e3 => ?_) (fun z => nomatch z)
      refine s_ret ev_c fun H4 e4 => ?_
      have q := k .non H4 ((e02.trans e3).trans e4)
      rw [def_] at q
      exact q rfl
    | some l =>
      rw [hl] at def_
      obtain ⟨l0, l6⟩ := readNum_le hl
      refine q_when (b := false) (et_is (et_test (ev_isN (x := .int l) (ev_var rfl))) (by simp)) (fun z => nomatch z) fun _ H3 e3 => ?_
      have e03 := e02.trans e3
      refine q_asg (num_ev (ev_op (ev_var rfl) ev_c (rv_ixL (ex_l e03 hS) (word_at (i := 3) (by omega)))) (ev_var rfl) ev_c (by omega)) fun H4 e4 => ?_
      have e04 := e03.trans e4
      refine q_asg (v := optV (depthOf (cutW ws (some 5) (some (-1))))) (fun H9 e9 Q9 q9 => ?_) fun H5 e5 => ?_
      · refine el_sl (ev_var rfl) (eo_some ev_c) (eo_some (ev_un ev_c ru_neg)) (ex_l e04 hS) H9 e9 _ fun p9 H10 n10 e10 h10 => ⟨p9, cutW ws (some 5) (some (-1)), rfl, ?_, Nat.le_trans (cutW_le _ _ _) hz, ok.cut _ _, fun H11 e11 => q9 H11 (e10.trans e11)⟩
        rw [← cutV_strs]
        exact sq_of h10
      have e05 := e04.trans e5
      have def2 : takeOf ws = takeTail ws l := def_
      refine q_when (b := decide (optV (readNum (ws.getD 3 "") l 6) = V.non) || (decide (optV (depthOf (cutW ws (some 5) (some (-1)))) = V.non) || !inV (.str (ws.getD (ws.length - 1) "")) [.str "kept", .str "turned"]))
        (et_or (et_test (ev_isN (ev_var rfl))) fun _ => et_or (et_test (ev_isN (ev_var rfl))) fun _ => et_test (ev_niU (ev_op (ev_var rfl) (ev_un ev_c ru_neg) (rv_ixL (ex_l e05 hS) (word_last (by omega)))) (eu_tup (ea_cons ev_c (ea_cons ev_c ea_nil)) (Nat.le_of_ble_eq_true rfl)) rfl rfl)) (fun z6 H6 e6 => ?_) (fun z6 H6 e6 => ?_)
      · refine s_ret ev_c fun H7 e7 => ?_
        have q := k .non H7 ((e05.trans e6).trans e7)
        have none_ : takeTail ws l = none := by
          unfold takeTail
          cases h1 : readNum (ws.getD 3 "") l 6 with
          | none => rfl
          | some m =>
            cases h2 : depthOf (cutW ws (some 5) (some (-1))) with
            | none => rfl
            | some e =>
              rw [h1, h2] at z6
              simp only [optV, reduceCtorEq, decide_false, Bool.false_or] at z6
              show (if _ then _ else _) = none
              rw [if_neg (by simpa using z6)]
        rw [def2, none_] at q
        exact q rfl
      · obtain ⟨z7, z8⟩ := Bool.or_eq_false_iff.mp z6
        obtain ⟨z8, z9⟩ := Bool.or_eq_false_iff.mp z8
        obtain ⟨m, hm⟩ : ∃ m, readNum (ws.getD 3 "") l 6 = some m := Option.ne_none_iff_exists'.mp fun y => of_decide_eq_false z7 (optV_none.mpr y)
        obtain ⟨e, he⟩ : ∃ e, depthOf (cutW ws (some 5) (some (-1))) = some e := Option.ne_none_iff_exists'.mp fun y => of_decide_eq_false z8 (optV_none.mpr y)
        have some_ : takeTail ws l = some ⟨"take", l, m, e, decide (V.str (ws.getD (ws.length - 1) "") = V.str "turned")⟩ := by
          unfold takeTail
          rw [hm, he]
          show (if _ then _ else _) = _
          rw [if_pos (by simpa using z9)]
        have hm' : optV (readNum (ws.getD 3 "") l 6) = .int m := by rw [hm]; rfl
        have he' : optV (depthOf (cutW ws (some 5) (some (-1)))) = .int e := by rw [he]; rfl
        refine s_retR (er_day (d := ⟨"take", l, m, e, decide (V.str (ws.getD (ws.length - 1) "") = V.str "turned")⟩) (ea_cons ev_c (ea_cons (ev_var rfl) (ea_cons (ev_is (ev_var rfl) hm') (ea_cons (ev_is (ev_var rfl) he') (ea_cons (ev_op (ev_op (ev_var rfl) (ev_un ev_c ru_neg) (rv_ixL (ex_l (e05.trans e6) hS) (word_last (by omega)))) ev_c (rv_eq rfl)) ea_nil)))))) fun v H7 e7 r => ?_
        have q := k v H7 ((e05.trans e6).trans e7)
        rw [def2, some_] at q
        exact q r
theorem ok_day {f fn fc ft fe CD fI : Addr} {fd fnd fcd ftd fed dI : FuncData} {j : Nat} (F : Fun K "read_day" "read_day" sDay f fd) (B : Blt mg) (L : Lim mg) (N : Num K mg fn fnd) (D : Dy K mg CD fI dI)
    (FE : Fun K "read_depth" "read_depth" sDepth fe fed) (bE : Binds K fed ["words"] []) (mE : mg "read_depth" = some (.ref fe))
    (FC : Fun K "read_cut" "read_cut" sCut fc fcd) (bC : Binds K fcd ["words"] []) (mC : mg "read_cut" = some (.ref fc))
    (FT : Fun K "read_take" "read_take" sTake ft ftd) (bT : Binds K ftd ["words"] []) (mTk : mg "read_take" = some (.ref ft)) :
    FnOk P w K mg base CX0 (j + 4) f fd ["row"] (spDay K CD) := by
  have GI : FnOk P w K mg base CX0 (j + 2) fI dI ["self", "word", "least", "most", "depth", "turned"] (spDayI CD) := ok_dayI D
  have GC : FnOk P w K mg base CX0 (j + 3) fc fcd ["words"] (spCut K CD) := ok_cut FC B L N D
  have GT : FnOk P w K mg base CX0 (j + 3) ft ftd ["words"] (spTake K CD) := ok_take FT B L N D FE bE mE
  refine F.ok scDay (fun vs H Q E h => ?_) (fun cdv A outer s H vs Q E hr h => ?_)
  · obtain ⟨v, rfl, _⟩ := h
    rfl
  · obtain ⟨v, rfl, h⟩ := h
    refine ⟨_, (pss_cons (ps_if (pt_not (pt_val (pe_callB call_isi (by rfl) B.isi bIsi (pa_cons (pv 0) (pa_cons (pe_bltn (v := .ty "str") (by rfl) B.str bStr rfl) pa_nil))))) (pss_one (ps_ret pe_non)) pss_nil)
      (pss_cons (ps_if (pt_cmpR op_in_seq (pv 0) (pe_tup (pa_cons pe_str (pa_cons pe_str pa_nil))) rfl) (pss_one (ps_ret (pe_make D.M GI hr (by rfl) D.m D.b .nil pass0 (pa_cons (pv 0) (pa_cons pe_int (pa_cons pe_int (pa_cons pe_int (pa_cons pe_bl pa_nil)))))))) pss_nil)
      (pss_cons (ps_set (i := 1) scDay.nd rfl (.inl rfl) (pe_split (pv 0) pe_str))
      (pss_cons (ps_if (pt_cmpR op_eq (pe_ix ix_list (pv 1) pe_int (fun _ _ => rfl)) pe_str (nomark _)) (pss_one (ps_ret (pe_call GC hr (by rfl) mC FC.kp bC .nil pass0 (pa_cons (pv 1) pa_nil)))) pss_nil)
      (pss_one (ps_ret (pe_call GT hr (by rfl) mTk FT.kp bT .nil pass0 (pa_cons (pv 1) pa_nil)))))))), ?_⟩
    rcases h with ⟨s, rfl, hz, hz2, ok, k⟩ | ⟨⟨t, ty, kt⟩, k⟩
    · refine q_when (b := false) (et_is (et_not (et_B (ev_isi (ev_var rfl) ev_c (.ty _) (fun _ _ => .base (.str s)) kit_str))) rfl) (fun z => nomatch z) fun _ H1 e1 => ?_
      refine q_when (b := inV (.str s) [.str "turn", .str "rest"]) (et_test (ev_inU (xs := [.str "turn", .str "rest"]) (ev_var rfl) (eu_tup (ea_cons ev_c (ea_cons ev_c ea_nil)) (Nat.le_of_ble_eq_true rfl)) rfl rfl)) (fun z H2 e2 => ?_) (fun z H2 e2 => ?_)
      · refine s_retR (er_day (d := ⟨s, 0, 0, 0, false⟩) (ea_cons (ev_var rfl) (ea_cons ev_c (ea_cons ev_c (ea_cons ev_c (ea_cons ev_c ea_nil)))))) fun v H3 e3 r => ?_
        have q := k v H3 ((e1.trans e2).trans e3)
        unfold dayOf at q
        rw [if_pos z] at q
        exact q r
      have def_ : dayOf s = if V.str ((Txt.split s " ").getD 0 "") = V.str "cut" then cutOf (Txt.split s " ") else takeOf (Txt.split s " ") := by
        rw [dayOf, if_neg (by rw [z]; decide)]
      refine q_asgL (el_split (ev_var rfl) ev_c hz rfl) fun p H3 n3 e3 h3 => ?_
      have e03 := (e1.trans e2).trans e3
      have hS : SqL K H3 p ((Txt.split s " ").map V.str) := sq_of h3
      refine q_when (b := decide (V.str ((Txt.split s " ").getD 0 "") = V.str "cut")) (et_test (ev_op (ev_op (ev_var rfl) ev_c (rv_ixL hS (word_at (i := 0) (PyProof.Rows.split_pos _ _)))) ev_c (rv_eq rfl))) (fun z4 H4 e4 => ?_) (fun z4 H4 e4 => ?_)
      · refine s_retR (R := fun H' u => DayV CD H' (cutOf (Txt.split s " ")) u) (fun H9 e9 Q9 q9 => ⟨.ref p, rfl, p, _, rfl, ex_l (e4.trans e9) hS, hz2, ok, fun u H' e' r => q9 u H' e' r⟩) fun v H5 e5 r => ?_
        have q := k v H5 ((e03.trans e4).trans e5)
        rw [def_, if_pos (of_decide_eq_true z4)] at q
        exact q r
      · refine s_retR (R := fun H' u => DayV CD H' (takeOf (Txt.split s " ")) u) (fun H9 e9 Q9 q9 => ⟨.ref p, rfl, p, _, rfl, ex_l (e4.trans e9) hS, hz2, ok, fun u H' e' r => q9 u H' e' r⟩) fun v H5 e5 r => ?_
        have q := k v H5 ((e03.trans e4).trans e5)
        rw [def_, if_neg (of_decide_eq_false z4)] at q
        exact q r
    · refine q_when (b := true) (et_is (et_not (et_B (ev_isi (ev_var rfl) ev_c (.ty _) ty kt))) rfl) (fun _ H1 e1 => ?_) (fun z => nomatch z)
      exact s_ret ev_c fun H2 e2 => k H2 (e1.trans e2)
theorem ok_first {f fn : Addr} {fd fnd : FuncData} {j : Nat} (F : Fun K "read_first" "read_first" sFirst f fd) (B : Blt mg) (L : Lim mg) (N : Num K mg fn fnd) :
    FnOk P w K mg base CX0 (j + 2) f fd ["row"] (spFirst K) := by
  have GN : FnOk P w K mg base CX0 (j + 1) fn fnd ["word", "least", "most"] spNum := ok_num N.F B
  obtain ⟨tP, mP⟩ := L.plates
  obtain ⟨tA, mA⟩ := L.away
  refine F.ok scFirst (fun vs H Q E h => ?_) (fun cdv A outer s H vs Q E hr h => ?_)
  · obtain ⟨v, rfl, _⟩ := h
    rfl
  · obtain ⟨v, rfl, h⟩ := h
    refine ⟨_, (pss_cons (ps_if (pt_not (pt_val (pe_callB call_isi (by rfl) B.isi bIsi (pa_cons (pv 0) (pa_cons (pe_bltn (v := .ty "str") (by rfl) B.str bStr rfl) pa_nil))))) (pss_one (ps_ret pe_non)) pss_nil)
      (pss_cons (ps_set (i := 1) scFirst.nd rfl (.inl rfl) (pe_split (pv 0) pe_str))
      (pss_cons (ps_if (pw_or (pt_cmpR op_ne (pe_callB call_len_seq (by rfl) B.len PySem.boot_len (pa_cons (pv 1) pa_nil)) pe_int (nomark _)) (pw_or (pt_cmpR op_ne (pe_ix ix_list (pv 1) pe_int (fun _ _ => rfl)) pe_str (nomark _)) (pw_or1 (pt_cmpR op_ne (pe_ix ix_list (pv 1) pe_int (fun _ _ => rfl)) pe_str (nomark _))))).pt (pss_one (ps_ret pe_non)) pss_nil)
      (pss_cons (ps_set (i := 2) scFirst.nd rfl (.inl rfl) (pe_call GN hr (by rfl) N.m N.F.kp N.b .nil pass0 (pa_cons (pe_ix ix_list (pv 1) pe_int (fun _ _ => rfl)) (pa_cons pe_int (pa_cons (pe_glob (v := .int 10) (by rfl) mP ⟨_, rfl⟩) pa_nil)))))
      (pss_cons (ps_set (i := 3) scFirst.nd rfl (.inl rfl) (pe_call GN hr (by rfl) N.m N.F.kp N.b .nil pass0 (pa_cons (pe_ix ix_list (pv 1) pe_int (fun _ _ => rfl)) (pa_cons pe_int (pa_cons (pe_glob (v := .int 2) (by rfl) mA ⟨_, rfl⟩) pa_nil)))))
      (pss_cons (ps_if (pw_or (pt_cmpR op_isN (pv 2) pe_non (nomark _)) (pw_or1 (pt_cmpR op_isN (pv 3) pe_non (nomark _)))).pt (pss_one (ps_ret pe_non)) pss_nil)
      (pss_one (ps_ret (pe_tup (pa_cons (pv 2) (pa_cons (pv 3) pa_nil))))))))))), ?_⟩
    rcases h with ⟨s, rfl, hz, hz2, ok, k⟩ | ⟨⟨t, ty, kt⟩, k⟩
    · refine q_when (b := false) (et_is (et_not (et_B (ev_isi (ev_var rfl) ev_c (.ty _) (fun _ _ => .base (.str s)) kit_str))) rfl) (fun z => nomatch z) fun _ H1 e1 => ?_
      refine q_asgL (el_split (ev_var rfl) ev_c hz rfl) fun p H2 n2 e2 h2 => ?_
      have e02 := e1.trans e2
      have hS : SqL K H2 p ((Txt.split s " ").map V.str) := sq_of h2
      have l1 : ((Txt.split s " ").map V.str).length = (Txt.split s " ").length := List.length_map ..
      refine q_when (b := (!decide (V.int ((Txt.split s " ").length : Int) = V.int 4)) || (!decide (V.str ((Txt.split s " ").getD 0 "") = V.str "plates") || !decide (V.str ((Txt.split s " ").getD 2 "") = V.str "away")))
        (et_or (et_test (ev_op (ev_is (ev_len (ev_var rfl) hS) (by rw [l1])) ev_c (rv_ne rfl))) (fun z1 => ?_)) (fun z H3 e3 => ?_) (fun z H3 e3 => ?_)
      · have four' : ((Txt.split s " ").length : Int) = 4 := by simpa using z1
        have four : (Txt.split s " ").length = 4 := by omega
        exact et_or (et_test (ev_op (ev_op (ev_var rfl) ev_c (rv_ixL (ex_l (Ex.refl _) hS) (word_at (ws := Txt.split s " ") (i := 0) (by omega)))) ev_c (rv_ne rfl))) fun _ => et_test (ev_op (ev_op (ev_var rfl) ev_c (rv_ixL (ex_l (Ex.refl _) hS) (word_at (ws := Txt.split s " ") (i := 2) (by omega)))) ev_c (rv_ne rfl))
      · refine s_ret ev_c fun H4 e4 => ?_
        unfold firstOf at k
        rw [if_pos z] at k
        exact k H4 ((e02.trans e3).trans e4)
      · have four' : ((Txt.split s " ").length : Int) = 4 := by simpa using (Bool.or_eq_false_iff.mp z).1
        have four : (Txt.split s " ").length = 4 := by omega
        have e03 := e02.trans e3
        unfold firstOf at k
        rw [if_neg (by rw [z]; decide)] at k
        refine q_asg (num_ev (ev_op (ev_var rfl) ev_c (rv_ixL (ex_l e3 hS) (word_at (ws := Txt.split s " ") (i := 1) (by omega)))) ev_c ev_c (by decide)) fun H4 e4 => ?_
        have e34 := e3.trans e4
        refine q_asg (num_ev (ev_op (ev_var rfl) ev_c (rv_ixL (ex_l e34 hS) (word_at (ws := Txt.split s " ") (i := 3) (by omega)))) ev_c ev_c (by decide)) fun H5 e5 => ?_
        have e05 := (e03.trans e4).trans e5
        cases h1 : readNum ((Txt.split s " ").getD 1 "") 2 10 with
        | none =>
          rw [h1] at k
          refine q_when (b := true) (et_is (et_or (b := true) (et_test (ev_isN (x := .non) (ev_var rfl))) fun z => nomatch z) rfl) (fun _ H6 e6 => s_ret ev_c fun H7 e7 => ?_) (fun z => nomatch z)
          exact k H7 ((e05.trans e6).trans e7)
        | some n1 =>
          rw [h1] at k
          cases h2 : readNum ((Txt.split s " ").getD 3 "") 0 2 with
          | none =>
            rw [h2] at k
            refine q_when (b := true) (et_is (et_or (et_test (ev_isN (x := .int n1) (ev_var rfl))) fun _ => et_test (ev_isN (x := .non) (ev_var rfl))) rfl) (fun _ H6 e6 => s_ret ev_c fun H7 e7 => ?_) (fun z => nomatch z)
            exact k H7 ((e05.trans e6).trans e7)
          | some n2 =>
            rw [h2] at k
            refine q_when (b := false) (et_is (et_or (et_test (ev_isN (x := .int n1) (ev_var rfl))) fun _ => et_test (ev_isN (x := .int n2) (ev_var rfl))) rfl) (fun z => nomatch z) fun _ H6 e6 => ?_
            exact s_retU (eu_tup (ea_cons (ev_var rfl) (ea_cons (ev_var rfl) ea_nil)) (Nat.le_of_ble_eq_true rfl)) fun p H7 n7 e7 h7 => k p H7 (fresh_back (e05.trans e6) n7) ((e05.trans e6).trans e7) h7
    · refine q_when (b := true) (et_is (et_not (et_B (ev_isi (ev_var rfl) ev_c (.ty _) ty kt))) rfl) (fun _ H1 e1 => ?_) (fun z => nomatch z)
      exact s_ret ev_c fun H2 e2 => k H2 (e1.trans e2)
end
end PW
namespace PW
open PySem PySem.Spec PyProof.Rows L2 Evl
/-! ### rules -/
section
variable {X : Cx} {K : PySem.W.Frag} {σ : L2.St} {H : Hp} {o : Expr} {ta te : TE} {f : Str} {pos : Pos}
/-- o.f = v as one of several targets -/
def gFld (K : PySem.W.Frag) (ta : TE) (f : Str) : TG := fun v σ H Q => ta σ H fun x H1 => ∃ a C dx fs, x = .ref a ∧ H1 a = some (.ins C dx fs) ∧ Cls K C ∧ NoAttr K C f ∧ fs.length < 1000 ∧
  Q σ (upd H1 a (.ins C dx (putF f v fs)))
theorem pg_fld (ho : PE X o ta) : PG X (.Attribute o f pos) (gFld X.K ta f) := by
  refine ⟨fun pins s σ H v u Q I r h => ?_⟩
  rw [show assign (.Attribute o f pos) X.env u = (do
    let ov ← holding [u] (eval o X.env)
    standAt pos.atName
    holding [u, ov] (setAttr ov f u)
    release [u, ov] []) from rfl]
  refine wpAny_bind (wpAny_holding (thn (ho.run pins s σ H _ I h) fun ov s1 ⟨x, H1, I1, rx, a, C, dx, fs, ex, ea, c, n, l, q⟩ => ?_))
  subst ex
  obtain rfl : ov = Value.ref a := rx
  refine wpAny_bind (wpAny_standAt (wpAny_bind (wpAny_holding (setattr_ok I1 ea c n l r fun s3 I3 => ?_))))
  exact wpAny_release ⟨σ, _, I3, q⟩
theorem ev_lenT {p : Addr} {xs : List V} (ha : Ev ta σ H (.ref p)) (h : SqT K H p xs) : Ev (tCB (rLenS K) (tCons ta tNil)) σ H (.int (xs.length : Int)) :=
  ev_cb (ea_cons ha ea_nil) fun H1 e Q q => ⟨p, xs, rfl, .inr (ex_t e h), q H1 (Ex.refl H1)⟩
theorem ev_fld {a C dx : Addr} {fs : List (Str × V)} {v : V} (ha : Ev ta σ H (.ref a)) (h : H a = some (.ins C dx fs)) (c : Cls K C) (n : NoAttr K C f) (l : fs.lookup f = some v) : Ev (tFld K ta f) σ H v := fun H1 e Q q =>
  ha H1 e _ fun H2 e2 => ⟨a, C, dx, fs, v, rfl, (e.trans e2) _ _ h, c, n, l, q H2 e2⟩
end
def fineW (s : Str) : Bool := decide (s.length ≤ 1000) && (decide ((Txt.split s " ").length ≤ 1000) && ((Txt.split s " ").all PyData.strOk && PyData.strOk s))
theorem fine_of {s : Str} (h : fineW s = true) : s.length ≤ 1000 ∧ (Txt.split s " ").length ≤ 1000 ∧ OkW (Txt.split s " ") := by
  unfold fineW at h
  simp only [Bool.and_eq_true, decide_eq_true_eq] at h
  exact ⟨h.1, h.2.1, List.all_eq_true.mp h.2.2.1⟩
theorem fine_ok {s : Str} (h : fineW s = true) : PyData.strOk s = true := by
  unfold fineW at h
  simp only [Bool.and_eq_true, decide_eq_true_eq] at h
  exact h.2.2.2
/-- the rows of a rule -/
structure Good (ss : List Str) (a b : Int) : Prop where
  two : 2 ≤ ss.length
  seven : ss.length ≤ 7
  head : firstOf (ss.getD 0 "") = some (a, b)
  fine : ∀ x ∈ ss, fineW x = true
  days : ∀ i, 1 ≤ i → i < ss.length → isDay (ss.getD i "") = true
theorem Good.oks {ss : List Str} {a b : Int} (G : Good ss a b) : OkW ss := fun x hx => fine_ok (G.fine x hx)
def ruleF (p q : Addr) (a b : Int) : List (Str × V) := [("_rows", .ref p), ("_plates", .int a), ("_away", .int b), ("days", .ref q)]
theorem upd_upd_far {H : Hp} {x q : Addr} {o u v : HO} (h : q ≠ x) : upd (upd (upd H x o) q u) x v = upd (upd H q u) x v := by
  funext b
  unfold upd
  by_cases z : b = x
  · simp only [if_pos z]
  · simp only [if_neg z]
/-- the days that the rows tell -/
def DaysV (CD : Addr) (H : Hp) (os : List (Option DayD)) (ds : List V) : Prop := ds.length = os.length ∧ ∀ i v, ds[i]? = some v → DayV CD H (os.getD i none) v
theorem DaysV.keep {CD : Addr} {H H' : Hp} {os : List (Option DayD)} {ds : List V} (h : DaysV CD H os ds) (k : ∀ p dx d, H p = some (.ins CD dx (dayF d)) → H' p = some (.ins CD dx (dayF d))) : DaysV CD H' os ds :=
  ⟨h.1, fun i v e => (h.2 i v e).keep k⟩
theorem DaysV.ext {CD : Addr} {H H' : Hp} {os : List (Option DayD)} {ds : List V} (h : DaysV CD H os ds) (e : Ex H H') : DaysV CD H' os ds := h.keep fun _ _ _ q => e _ _ q
/-- at x a rule of these rows -/
def RuleAt (H : Hp) (C CD x : Addr) (ss : List Str) (a b : Int) : Prop := ∃ dx p q ds, H x = some (.ins C dx (ruleF p q a b)) ∧ H p = some (.tup (ss.map V.str)) ∧ H q = some (.tup ds) ∧ DaysV CD H ((ss.drop 1).map dayOf) ds
theorem RuleAt.ext {H H' : Hp} {C CD x : Addr} {ss : List Str} {a b : Int} (r : RuleAt H C CD x ss a b) (e : Ex H H') : RuleAt H' C CD x ss a b :=
  let ⟨dx, p, q, ds, h1, h2, h3, h4⟩ := r
  ⟨dx, p, q, ds, e _ _ h1, e _ _ h2, e _ _ h3, h4.ext e⟩
structure Ru (K : PySem.W.Frag) (C : Addr) : Prop where
  cl : Cls K C
  nr : NoAttr K C "_rows"
  nd : NoAttr K C "days"
  np : NoAttr K C "_plates"
  na : NoAttr K C "_away"
abbrev sInit : Stmt := inClass (top 32) 0
theorem scInit : FnScope ["self", "rows", "first", "days", "row"] ["self", "rows"] (defScope sInit) := ⟨rfl, rfl, rfl, by decide +kernel, rfl, by decide +kernel, by decide +kernel⟩
structure Texts (K : PySem.W.Frag) (mg : Str → Option Value) (fn fe fc ft fy ff CD fI : Addr) (nd ed cd td yd qd dI : FuncData) : Prop where
  N : Num K mg fn nd
  D : Dy K mg CD fI dI
  E : Fun K "read_depth" "read_depth" sDepth fe ed
  bE : Binds K ed ["words"] []
  mE : mg "read_depth" = some (.ref fe)
  C : Fun K "read_cut" "read_cut" sCut fc cd
  bC : Binds K cd ["words"] []
  mC : mg "read_cut" = some (.ref fc)
  T : Fun K "read_take" "read_take" sTake ft td
  bT : Binds K td ["words"] []
  mT : mg "read_take" = some (.ref ft)
  Y : Fun K "read_day" "read_day" sDay fy yd
  bY : Binds K yd ["row"] []
  mY : mg "read_day" = some (.ref fy)
  F : Fun K "read_first" "read_first" sFirst ff qd
  bF : Binds K qd ["row"] []
  mF : mg "read_first" = some (.ref ff)
  ob : PySem.W.mroIn K CD (.type "object") = some true
  eq : PySem.W.findIn K (.ref CD) "__eq__" = some (some (.builtin "object.__eq__"))
abbrev sBad : Stmt := inClass (top 6) 0
theorem scBad : FnScope ["self", "index"] ["self", "index"] (defScope sBad) := ⟨rfl, rfl, rfl, by decide +kernel, rfl, by decide +kernel, by decide +kernel⟩
def spBad (C : Addr) : Sp := fun vs H Q _ => ∃ (a : Addr) (v : V), vs = [.ref a, v] ∧ H a = some (exo a C none) ∧
  ∀ d, H d = none → d ≠ a → Q .non (upd (upd H d (exd d [("index", v)])) a (exo a C (some d)))
def daysOf (os : List (Option Str)) : List (Option DayD) := (os.drop 1).map (·.bind dayOf)
def flawOf (os : List (Option Str)) : Option V := if 2 ≤ os.length ∧ os.length ≤ 7 then (match (os.getD 0 none).bind firstOf with
  | none => some (.int 0)
  | some _ => ((daysOf os).findIdx? Option.isNone).map fun j => V.int ((j : Int) + 1)) else some .non
/-- a value in a rule's row: a text that can be read, or no text -/
def RowV (K : PySem.W.Frag) (H : Hp) (v : V) : Option Str → Prop
  | some s => v = .str s ∧ s.length ≤ 1000 ∧ (Txt.split s " ").length ≤ 1000 ∧ OkW (Txt.split s " ")
  | none => NoStr K H v
theorem RowV.ext {K : PySem.W.Frag} {H H' : Hp} {v : V} : ∀ {o : Option Str}, RowV K H v o → Ex H H' → RowV K H' v o
  | some _, h, _ => h
  | none, ⟨t, ty, kt⟩, e => ⟨t, fun H1 e1 => ty H1 (e.trans e1), kt⟩
/-- a list comprehension over a new tuple whose elements are told by a property -/
theorem er_lcT {K : PySem.W.Frag} {σ : L2.St} {H : Hp} {tl te : TE} {j : Nat} {vs : List Nat} {xs : List V} {R : Nat → Hp → V → Prop} (h : EvU tl σ H xs) (hz : xs.length ≤ 40000) (hw : ∀ x, wipe ((wipe σ vs).set j (some x)) vs = wipe σ vs)
    (RM : ∀ i H H' v, (∀ p C dx fs, H p = some (.ins C dx fs) → H' p = some (.ins C dx fs)) → R i H v → R i H' v)
    (he : ∀ (i : Nat) (x : V) H1, Ex H H1 → xs[i]? = some x → EvR te ((wipe σ vs).set j (some x)) H1 (R i)) :
    EvR (tLc (iTup K tl) (gName j) tYes te vs) σ H (fun H' v => ∃ l ys, v = .ref l ∧ H' l = some (.lst ys) ∧ ys.length = xs.length ∧ ∀ i y, ys[i]? = some y → R i H' y) := fun H0 e Q q => h H0 e _ fun a H1 ha e1 hx => ⟨a, rfl, ⟨xs, st_of hx⟩, fun Dl hD =>
  lc_tup (xs := xs) (fun i H' => Ex H1 H' ∧ ∃ acc, H' Dl = some (.lst acc) ∧ acc.length = i ∧ ∀ k y, acc[k]? = some y → R k H' y) ⟨Ex.new hD, [], upd_same, rfl, fun k y hk => by simp at hk⟩ (fun i H' _ p => st_of (p.1 a _ hx))
    (fun i x H' hi p => ⟨hw x, by
      obtain ⟨p2, acc, p3, p4, p5⟩ := p
      show te ((wipe σ vs).set j (some x)) H' fun y H4 => ∃ acc, H4 Dl = some (.lst acc) ∧ acc.length < sizeLine ∧ Ex H1 (upd H4 Dl (.lst (acc ++ [y]))) ∧ ∃ acc', (upd H4 Dl (.lst (acc ++ [y]))) Dl = some (.lst acc') ∧ acc'.length = i + 1 ∧ ∀ k y', acc'[k]? = some y' → R k (upd H4 Dl (.lst (acc ++ [y]))) y'
      have hix : i < xs.length := (List.getElem?_eq_some_iff.mp hi).1
      refine he i x H' ((e.trans e1).trans p2) hi H' (Ex.refl H') _ fun y H4 e4 r => ⟨acc, e4 _ _ p3, sz_lt (by omega), Ex.mut (p2.trans e4) hD, acc ++ [y], upd_same, by simp [p4], fun k y' hk => ?_⟩
      have keep : ∀ p C dx fs, H4 p = some (.ins C dx fs) → (upd H4 Dl (.lst (acc ++ [y]))) p = some (.ins C dx fs) := fun p C dx fs hp => by
        have ne : p ≠ Dl := fun z => by
          rw [z, e4 _ _ p3] at hp
          cases hp
        rw [upd_ne ne]
        exact hp
      by_cases hk2 : k < acc.length
      · rw [List.getElem?_append_left hk2] at hk
        exact RM k _ _ _ (fun p C dx fs hp => keep p C dx fs (e4 _ _ hp)) (p5 k y' hk)
      · have hk3 : k = acc.length := by
          have := (List.getElem?_eq_some_iff.mp hk).1
          simp at this
          omega
        subst hk3
        rw [List.getElem?_append_right (Nat.le_refl _), Nat.sub_self] at hk
        obtain rfl := Option.some.inj hk
        rw [p4]
        exact RM i _ _ _ keep r⟩)
    (fun H' p => by
      obtain ⟨p2, acc, p3, p4, p5⟩ := p
      exact q (.ref Dl) H' (e1.trans p2) ⟨Dl, acc, rfl, p3, p4, p5⟩)⟩
section
variable {P : Program} {w : World} {K : PySem.W.Frag} {mg : Str → Option Value} {base : Heap} {fn fe fc ft fy ff CD fI : Addr} {nd ed cd td yd qd dI : FuncData}
theorem taker_of {K : PySem.W.Frag} {C : Addr} {g : Str} (h : PySem.W.findIn K (.ref C) g = some none) : PySem.W.takerIn K C g = some none := by
  unfold PySem.W.takerIn
  rw [h]
  rfl
theorem ok_bad {f C : Addr} {fd : FuncData} {j : Nat} (F : Fun K "__init__" "InvalidRows.__init__" sBad f fd) (T : XC K C) (no : PySem.W.findIn K (.ref C) "index" = some none) :
    FnOk P w K mg base CX0 (j + 1) f fd ["self", "index"] (spBad C) := by
  refine F.ok scBad (fun vs H Q E h => ?_) (fun cdv A outer s H vs Q E hr h => ?_)
  · obtain ⟨a, v, rfl, _⟩ := h
    rfl
  · obtain ⟨a, v, rfl, ha, k⟩ := h
    exact ⟨_, pss_one (ps_put (pv 0) (pv 1)), v, rfl, .ref a, rfl, a, C, rfl, T, taker_of no, .inl ⟨ha, fun d nd ne => k d nd ne⟩⟩
/-- the class InvalidRows -/
structure Bad (K : PySem.W.Frag) (mg : Str → Option Value) (CR fR : Addr) (dR : FuncData) : Prop where
  F : Fun K "__init__" "InvalidRows.__init__" sBad fR dR
  T : XC K CR
  no : PySem.W.findIn K (.ref CR) "index" = some none
  i : PySem.W.findIn K (.ref CR) "__init__" = some (some (.ref fR))
  t : PySem.W.typeIn K (.ref fR) = some (.type "function")
  m : mg "InvalidRows" = some (.ref CR)
  sub : PySem.W.subIn K (.ref CR) (.type "BaseException") = some true
  ty : PySem.W.typeIn K (.ref CR) = some (.type "type")
theorem Bad.binds {CR fR : Addr} {dR : FuncData} (B : Bad K mg CR fR dR) (s : Shared) (us : List Value) (hl : us.length = (["self", "index"] : List Str).length) :
    BindsTo s dR ⟨us, []⟩ ((["self", "index"] : List Str).zip us) := by
  obtain ⟨_, _, _, _, _, _, _, _, _, rfl, _, _⟩ := B.F.ex
  match us, hl with
  | [_, _], _ => exact .of_eq rfl
/-- what is left of the making: the error raised at its end -/
theorem raise_bad {CR : Addr} {ta : TA} {σ : L2.St} {H : Hp} {v : V} {H0 : Hp} {X : Cx} {E : XK} (hX : X.H_0 = H0) (e0 : Ex H0 H) (ha : EvA ta σ H [v]) (r : Raises X (.ref CR))
    (k : ∀ d H', H d = none → Ex H H' → H' d = some (exd d [("index", v)]) → E (.ref CR) (some d) H') :
    tMkX CR (spBad CR) ta σ H fun x H1 => ∃ a C d, x = .ref a ∧ H1 a = some (exo a C d) ∧ Fr0 X.H_0 a ∧ Raises X (.ref C) ∧ E (.ref C) d (delH H1 a) := by
  refine ha H (Ex.refl H) _ fun H1 e1 => ⟨by show 1 ≤ 1000; decide, fun a na => ⟨a, v, rfl, upd_same, fun d nd ne => ⟨rfl, a, CR, some d, rfl, upd_same, ?_, r, ?_⟩⟩⟩
  · rw [hX]
    exact fr0_none (fresh_back (e0.trans e1) na)
  · have nd' : H1 d = none := by rw [upd_ne ne] at nd; exact nd
    refine k d _ (fresh_back e1 nd') (fun b o e => ?_) ?_
    · have q := e1 _ _ e
      have ba : b ≠ a := ne_of_none q na
      have bd : b ≠ d := ne_of_none q nd'
      rw [delH_ne ba, upd_ne ba, upd_ne bd, upd_ne ba]
      exact q
    · rw [delH_ne ne, upd_ne ne, upd_same]
theorem dayV_or {H : Hp} {o : Option DayD} {v : V} (Z : Texts K mg fn fe fc ft fy ff CD fI nd ed cd td yd qd dI) (h : DayV CD H o v) : NoneOr K H v := by
  cases o with
  | none => exact .inl h
  | some d =>
    obtain ⟨p, e, dx, hp⟩ := h
    exact .inr ⟨p, CD, dx, _, e, hp, Z.ob, Z.eq⟩
def spInitX (K : PySem.W.Frag) (C CR CD : Addr) : Sp := fun vs H Q E => ∃ (x dx p : Addr) (xs : List V) (os : List (Option Str)), vs = [.ref x, .ref p] ∧ H x = some (.ins C dx []) ∧ H p = some (.tup xs) ∧
  xs.length ≤ 1000 ∧ os.length = xs.length ∧ (∀ i v, xs[i]? = some v → RowV K H v (os.getD i none)) ∧
  match flawOf os with
  | some v => ∀ d H', H d = none → Ex H H' → H' d = some (exd d [("index", v)]) → E (.ref CR) (some d) H'
  | none => ∀ H', (∀ c o, c ≠ x → H c = some o → H' c = some o) → (∃ dx q a b ds, H' x = some (.ins C dx (ruleF p q a b)) ∧ H' p = some (.tup xs) ∧ H' q = some (.tup ds) ∧ DaysV CD H' (daysOf os) ds ∧ (os.getD 0 none).bind firstOf = some (a, b)) → Q .non H'
theorem ok_initX {f C CR fR : Addr} {fd dR : FuncData} (F : Fun K "__init__" "Rule.__init__" sInit f fd) (B : Blt mg) (L : Lim mg) (R : Ru K C) (Z : Texts K mg fn fe fc ft fy ff CD fI nd ed cd td yd qd dI) (D : Bad K mg CR fR dR) :
    FnR P w K mg base (L2N.CX P w) 5 f (fun vs H Q E => ∃ ws rest, vs = ws ++ rest ∧ ws.length = (["self"] : List Str).length ∧ rest.length ≤ sizeLine ∧ ∀ p, H p = none → spInitX K C CR CD (ws ++ [V.ref p]) (upd H p (.tup rest)) Q E) := by
  have GF : FnOk P w K mg base CX0 4 ff qd ["row"] (spFirst K) := ok_first (j := 2) Z.F B L Z.N
  have GY : FnOk P w K mg base CX0 4 fy yd ["row"] (spDay K CD) := ok_day (j := 0) Z.Y B L Z.N Z.D Z.E Z.bE Z.mE Z.C Z.bC Z.mC Z.T Z.bT Z.mT
  have GB : FnOk P w K mg base CX0 1 fR dR ["self", "index"] (spBad CR) := ok_bad (j := 0) D.F D.T D.no
  obtain ⟨tD, mD⟩ := L.days
  obtain ⟨oc, od, kV, doc, pm, an, cdv, ct, osl, rfl, lk, hcd⟩ := F.ex
  refine StX.fn_star (pv := "rows") lk hcd scInit cxUpN (StX.bind_star1 (B := fun us => bindArgs (PySem.W.fnOf "__init__" "Rule.__init__" (defArgs sInit) (defBody sInit) (defScope sInit) .none kV doc pm an cdv ct) ⟨us, []⟩) (p1 := "self") (pv := "rows") (fun a => rfl) (fun a r rs => rfl)) fun A outer s H vs Q E hr h => ?_
  obtain ⟨x, dx, p, xs, os, rfl, hx, hp, hz, hl, hv, k⟩ := h
  have hr2 := hr.mono (j := 2) (by decide)
  have hu : A.units + 3 + 64 < cLine := hr.units
  refine ⟨_, (pss_cons (ps_if (pt_not (pt_chain op_le op_le pe_int (pe_callB call_len_seq (by rfl) B.len PySem.boot_len (pa_cons (pv 1) pa_nil)) (pe_op op_add pe_int (pe_glob (v := .int 6) (by rfl) mD ⟨_, rfl⟩)))) (pss_one (L2N.ps_raise rfl (L2N.takes_of rfl rfl rfl rfl) (pmkN_exo rfl (pe_mkX D.T D.i D.t GB hr2 (by rfl) D.m (pa_cons pe_non pa_nil) D.binds)))) pss_nil)
      (pss_cons (ps_set (i := 2) scInit.nd rfl (.inl rfl) (pe_call GF hr (by rfl) Z.mF Z.F.kp Z.bF .nil pass0 (pa_cons (pe_ix ix_tup (pv 1) pe_int (fun _ _ => rfl)) pa_nil)))
      (pss_cons (ps_if (pt_cmpR op_isN (pv 2) pe_non (nomark _)) (pss_one (L2N.ps_raise rfl (L2N.takes_of rfl rfl rfl rfl) (pmkN_exo rfl (pe_mkX D.T D.i D.t GB hr2 (by rfl) D.m (pa_cons pe_int pa_nil) D.binds)))) pss_nil)
      (pss_cons (ps_setLc (i := 3) (own := [("row", 4)]) (g := gName 4) (tt := tYes) rfl scInit.nd rfl rfl (sw_true rfl rfl rfl (by decide +kernel)) (pi_tup (pe_slice sl_tup (pv 1) (po_some pe_int) po_none)) (blkOk_by (N := ["self", "rows", "first", "days", "row"]) (sc := defScope sInit) (by decide +kernel)) (fun _ _ _ _ _ => pg_name (i := 4) scInit.nd rfl (Or.inl rfl)) (fun _ _ _ _ _ => pts_nil) (fun _ _ _ _ _ => pe_call GY hr (by rfl) Z.mY Z.Y.kp Z.bY .nil pass0 (pa_cons (pv 4) pa_nil)))
      (pss_cons (ps_if (pt_cmpR (op_noneIn hu) pe_non (pv 3) rfl) (pss_one (L2N.ps_raise rfl (L2N.takes_of rfl rfl rfl rfl) (pmkN_exo rfl (pe_mkX D.T D.i D.t GB hr2 (by rfl) D.m (pa_cons (pe_op op_add (pe_bm PySem.F.plainAttrs_list PySem.F.slot_list_index PySem.F.type_list_index (mt_indexN hu) (pv 3) (pa_cons pe_non pa_nil)) pe_int) pa_nil) D.binds)))) pss_nil)
      (pss_cons (ps_fld (pv 0) (pv 1) rfl)
      (pss_cons (ps_asg (pv 2) (pg_tup rfl (pgs_cons (pg_fld (pv 0)) (pgs_cons (pg_fld (pv 0)) pgs_nil))))
      (pss_one (ps_fld (pv 0) (pe_callTy call_tuple_of (by rfl) B.tuple bTuple (pa_cons (pv 3) pa_nil)) rfl))))))))), ?_⟩
  have rai : ∀ {X : Cx}, X.K = K → Raises X (.ref CR) := fun {X} hK => raises_own (by rw [hK]; exact D.sub) (by rw [hK]; exact D.ty)
  have okl : ∀ {H9 : Hp}, Ex H H9 → Ev (tCB (rLenS K) (tCons (tVar 1) tNil)) [some (.ref x), some (.ref p), none, none, none] H9 (.int (xs.length : Int)) := fun e9 => ev_lenT (ev_var rfl) (st_of (e9 _ _ hp))
  refine q_when (b := !(decide ((2 : Int) ≤ (xs.length : Int)) && decide ((xs.length : Int) ≤ 1 + 6))) (et_not (et_test (ev_chain ev_c (okl (Ex.refl H)) (ev_op ev_c ev_c rv_I0) rv_I0 (fun _ => rv_I0)))) (fun z H1 e1 => ?_) (fun z H1 e1 => ?_)
  · have no : ¬ (2 ≤ os.length ∧ os.length ≤ 7) := fun y => by
      rw [hl] at y
      rw [decide_eq_true (show (2 : Int) ≤ (xs.length : Int) by omega), decide_eq_true (show (xs.length : Int) ≤ 1 + 6 by omega)] at z
      cases z
    have fl : flawOf os = some .non := by
      unfold flawOf
      rw [if_neg no]
    rw [fl] at k
    exact raise_bad (H0 := H) rfl e1 (ea_cons ev_c ea_nil) (rai rfl) fun d H' nd e' hd => k d H' (fresh_back e1 nd) (e1.trans e') hd
  have z' : (decide ((2 : Int) ≤ (xs.length : Int)) && decide ((xs.length : Int) ≤ 1 + 6)) = true := by simpa using z
  have l2 : 2 ≤ xs.length := by
    have := of_decide_eq_true (Bool.and_eq_true_iff.mp z').1
    omega
  have l7 : xs.length ≤ 7 := by
    have := of_decide_eq_true (Bool.and_eq_true_iff.mp z').2
    omega
  have ite_ : flawOf os = (match (os.getD 0 none).bind firstOf with
      | none => some (.int 0)
      | some _ => ((daysOf os).findIdx? Option.isNone).map fun j => V.int ((j : Int) + 1)) := by
    unfold flawOf
    rw [if_pos (by omega)]
  have item : ∀ i, i < xs.length → ∃ v, atI xs (i : Int) = some v ∧ RowV K H v (os.getD i none) := fun i hi =>
    ⟨xs[i], atI_nat (List.getElem?_eq_getElem hi), hv i _ (List.getElem?_eq_getElem hi)⟩
  obtain ⟨v0, hv0, rv0⟩ := item 0 (by omega)
  have hp1 := e1 _ _ hp
  cases h0 : (os.getD 0 none).bind firstOf with
  | none =>
    have fl : flawOf os = some (.int 0) := by rw [ite_, h0]
    rw [fl] at k
    refine q_asg (v := .non) (fun H9 e9 Q9 q9 => ev_op (ev_var rfl) ev_c (rv_ixT (st_of hp1) hv0) H9 e9 _ fun H8 e8 => ⟨v0, rfl, ?_⟩) fun H2 e2 => ?_
    · cases ho : os.getD 0 none with
      | none =>
        rw [ho] at rv0
        exact .inr ⟨RowV.ext (o := none) rv0 ((e1.trans e9).trans e8), fun H7 e7 => q9 H7 (e8.trans e7)⟩
      | some t0 =>
        rw [ho] at rv0 h0
        obtain ⟨r1, r2, r3, r4⟩ := rv0
        refine .inl ⟨t0, r1, r2, r3, r4, ?_⟩
        rw [show firstOf t0 = none from h0]
        exact fun H7 e7 => q9 H7 (e8.trans e7)
    · refine q_when (b := true) (et_is (et_test (ev_isN (x := .non) (ev_var rfl))) rfl) (fun _ H3 e3 => ?_) (fun z => nomatch z)
      exact raise_bad (H0 := H) rfl ((e1.trans e2).trans e3) (ea_cons ev_c ea_nil) (rai rfl) fun d H' nd e' hd => k d H' (fresh_back ((e1.trans e2).trans e3) nd) (((e1.trans e2).trans e3).trans e') hd
  | some ab =>
    obtain ⟨a, b⟩ := ab
    have fl : flawOf os = ((daysOf os).findIdx? Option.isNone).map fun j => V.int ((j : Int) + 1) := by rw [ite_, h0]
    obtain ⟨t0, ho, hf⟩ : ∃ t0, os.getD 0 none = some t0 ∧ firstOf t0 = some (a, b) := by
      cases ho : os.getD 0 none with
      | none =>
        rw [ho] at h0
        cases h0
      | some t0 =>
        rw [ho] at h0
        exact ⟨t0, rfl, h0⟩
    refine q_asgU (xs := [.int a, .int b]) (fun H9 e9 Q9 q9 => ev_op (ev_var rfl) ev_c (rv_ixT (st_of hp1) hv0) H9 e9 _ fun H8 e8 => ⟨v0, rfl, ?_⟩) fun t H2 nt e2 ht => ?_
    · rw [ho] at rv0
      obtain ⟨r1, r2, r3, r4⟩ := rv0
      refine .inl ⟨t0, r1, r2, r3, r4, ?_⟩
      rw [hf]
      exact fun t H' nt e' ht => q9 t H' (fresh_back e8 nt) (e8.trans e') ht
    have e02 := e1.trans e2
    refine q_when (b := false) (et_is (et_test (ev_isN (x := .ref t) (ev_var rfl))) (by simp)) (fun z => nomatch z) fun _ H3 e3 => ?_
    have e03 := e02.trans e3
    have hp3 := e03 _ _ hp
    have ht3 := e3 _ _ ht
    have cut1 : cutV xs (some 1) none = xs.drop 1 := by
      unfold cutV
      have m1 : HT.sIx xs.length 0 (some 1) = 1 := by
        rw [show (1 : Int) = ((1 : Nat) : Int) from rfl, HT.sIx_nat]
        omega
      rw [m1, HT.sIx_none, List.take_of_length_le (by rw [List.length_drop]; omega)]
    refine q_asgR (er_lcT (K := K) (xs := xs.drop 1) (R := fun i H' v => DayV CD H' ((daysOf os).getD i none) v) (fun H9 e9 Q9 q9 => ?_) (by rw [List.length_drop]; omega) (fun _ => rfl) (fun i H H' v kp r => r.keep fun p dx d => kp p _ dx _) (fun i y H9 e9 hi H8 e8 Q8 q8 => ?_)) fun v H4 e4 r4 => ?_
    · refine ⟨.ref p, rfl, 1, rfl, p, xs, rfl, st_of (e9 _ _ hp3), ?_, fun q nq => q9 q _ nq (Ex.new nq) ?_⟩
      · intro z
        have z1 := z.1
        rw [show (1 : Int) = ((1 : Nat) : Int) from rfl, HT.sIx_nat] at z1
        omega
      · rw [cut1]
        exact upd_same
    · have hi2 : xs[1 + i]? = some y := by
        rw [List.getElem?_drop] at hi
        exact hi
      have rv1 := hv _ _ hi2
      have hlt : 1 + i < xs.length := (List.getElem?_eq_some_iff.mp hi2).1
      have same : (daysOf os).getD i none = (os.getD (1 + i) none).bind dayOf := by
        have h1 : 1 + i < os.length := by omega
        rw [daysOf, List.getD_eq_getElem?_getD, List.getElem?_map, List.getElem?_drop, List.getD_eq_getElem?_getD, List.getElem?_eq_getElem h1]
        rfl
      refine ⟨y, rfl, y, rfl, ?_⟩
      cases hq : os.getD (1 + i) none with
      | none =>
        rw [hq] at rv1 same
        refine .inr ⟨RowV.ext (o := none) rv1 ((e03.trans e9).trans e8), fun H6 e6 => q8 .non H6 e6 ?_⟩
        rw [same]
        exact rfl
      | some s1 =>
        rw [hq] at rv1 same
        obtain ⟨r1, r2, r3, r4⟩ := rv1
        refine .inl ⟨s1, r1, r2, r3, r4, fun u H6 e6 r => q8 u H6 e6 ?_⟩
        rw [same]
        exact r
    obtain ⟨l, ds, rfl, hl4, dl, dr⟩ := r4
    have dlen : ds.length = (daysOf os).length := by
      rw [dl, daysOf, List.length_map, List.length_drop, List.length_drop]
      omega
    have DV : DaysV CD H4 (daysOf os) ds := ⟨dlen, dr⟩
    have e04 := e03.trans e4
    have nor : ∀ {H9 : Hp}, Ex H4 H9 → ∀ z ∈ ds, NoneOr K H9 z := fun e9 z hz => by
      obtain ⟨i, hi⟩ := List.mem_iff_getElem?.mp hz
      exact dayV_or Z ((dr i z hi).ext e9)
    have anyE : ds.any isNon = ((daysOf os).findIdx? Option.isNone).isSome := by
      cases hf : (daysOf os).findIdx? Option.isNone with
      | none =>
        have all := List.findIdx?_eq_none_iff.mp hf
        show _ = false
        refine List.any_eq_false.mpr fun z hz => ?_
        obtain ⟨i, hi⟩ := List.mem_iff_getElem?.mp hz
        have hlt := (List.getElem?_eq_some_iff.mp hi).1
        have q := dr i z hi
        have hi2 : i < (daysOf os).length := by omega
        have q2 := all _ (List.getElem_mem hi2)
        rw [List.getD_eq_getElem?_getD, List.getElem?_eq_getElem hi2] at q
        cases hd : (daysOf os)[i] with
        | none =>
          rw [hd] at q2
          cases q2
        | some d =>
          rw [hd] at q
          obtain ⟨p9, rfl, _⟩ := q
          exact fun z => Bool.noConfusion z
      | some j =>
        obtain ⟨hj, h1, _⟩ := List.findIdx?_eq_some_iff_getElem.mp hf
        show _ = true
        have hj2 : j < ds.length := by omega
        refine List.any_eq_true.mpr ⟨ds[j], List.getElem_mem hj2, ?_⟩
        have q := dr j _ (List.getElem?_eq_getElem hj2)
        rw [List.getD_eq_getElem?_getD, List.getElem?_eq_getElem hj] at q
        cases hd : (daysOf os)[j] with
        | none =>
          rw [hd] at q
          rw [show ds[j] = V.non from q]
          rfl
        | some d =>
          rw [hd] at h1
          cases h1
    refine q_when (b := ((daysOf os).findIdx? Option.isNone).isSome) (et_is (et_test (ev_noneIn ev_c (ev_var rfl) (sq_of hl4) (nor (Ex.refl H4)))) anyE) (fun z5 H5 e5 => ?_) (fun z5 H5 e5 => ?_)
    · obtain ⟨j, hf⟩ := Option.isSome_iff_exists.mp z5
      obtain ⟨hj, h1, h2⟩ := List.findIdx?_eq_some_iff_getElem.mp hf
      have fl2 : flawOf os = some (.int ((j : Int) + 1)) := by rw [fl, hf]; rfl
      rw [fl2] at k
      have e05 := e04.trans e5
      refine raise_bad (H0 := H) rfl e05 (ea_cons (x := .int ((j : Int) + 1)) (ev_op (ev_indexN (j := j) (ev_var rfl) (sq_of (e5 _ _ hl4)) ev_c (nor e5) ?_ ?_) ev_c rv_I0) ea_nil) (rai rfl) fun d H' nd e' hd => k d H' (fresh_back e05 nd) (e05.trans e') hd
      · have hj2 : j < ds.length := by omega
        have q := dr j _ (List.getElem?_eq_getElem hj2)
        rw [List.getD_eq_getElem?_getD, List.getElem?_eq_getElem hj] at q
        cases hd : (daysOf os)[j] with
        | none =>
          rw [hd] at q
          rw [List.getElem?_eq_getElem hj2]
          exact congrArg some q
        | some d =>
          rw [hd] at h1
          cases h1
      · intro m z9 hm hz9
        have q := dr m _ hz9
        have hm2 : m < (daysOf os).length := by omega
        have h3 := h2 m hm
        rw [List.getD_eq_getElem?_getD, List.getElem?_eq_getElem hm2] at q
        cases hd : (daysOf os)[m] with
        | none =>
          rw [hd] at h3
          exact absurd rfl h3
        | some d =>
          rw [hd] at q
          obtain ⟨p9, rfl, _⟩ := q
          rfl
    · have hf : (daysOf os).findIdx? Option.isNone = none := Option.not_isSome_iff_eq_none.mp (by rw [z5]; decide)
      have fl2 : flawOf os = none := by rw [fl, hf]; rfl
      rw [fl2] at k
      have e05 := e04.trans e5
      have hx5 : H5 x = some (.ins C dx []) := e05 _ _ hx
      have hp5 : H5 p = some (.tup xs) := e05 _ _ hp
      have ht5 : H5 t = some (.tup [.int a, .int b]) := e5 _ _ (e4 _ _ ht3)
      have hl5 : H5 l = some (.lst ds) := e5 _ _ hl4
      have xp : p ≠ x := fun z => by
        rw [z, hx5] at hp5
        cases hp5
      have xt : t ≠ x := fun z => by
        rw [z, hx5] at ht5
        cases ht5
      have xl : l ≠ x := fun z => by
        rw [z, hx5] at hl5
        cases hl5
      refine ⟨.ref p, rfl, .ref x, rfl, x, C, dx, [], rfl, hx5, R.cl, R.nr, by decide, ?_⟩
      rw [show putF "_rows" (V.ref p) [] = ([("_rows", V.ref p)] : List (Str × V)) from rfl]
      refine ⟨.ref t, rfl, t, [.int a, .int b], rfl, st_of (by rw [upd_ne xt]; exact ht5), rfl, .int a, [.int b], rfl, .ref x, rfl, x, C, dx, _, rfl, upd_same, R.cl, R.np, (by show 1 < 1000; decide), ?_⟩
      rw [putN (by decide +kernel), show putF "_plates" (V.int a) [] = ([("_plates", V.int a)] : List (Str × V)) from rfl, upd_upd]
      refine ⟨.int b, [], rfl, .ref x, rfl, x, C, dx, _, rfl, upd_same, R.cl, R.na, (by show 2 < 1000; decide), rfl, ?_⟩
      rw [putN (by decide +kernel), putN (by decide +kernel), show putF "_away" (V.int b) [] = ([("_away", V.int b)] : List (Str × V)) from rfl, upd_upd]
      refine ⟨.ref l, rfl, l, ds, rfl, .inl ⟨sq_of (by rw [upd_ne xl]; exact hl5), fun q nq => ?_⟩⟩
      have xq : q ≠ x := fun z => by
        rw [z, upd_same] at nq
        cases nq
      refine ⟨.ref x, rfl, x, C, dx, _, rfl, (upd_ne xq.symm).trans upd_same, R.cl, R.nd, (by show 3 < 1000; decide), ?_⟩
      rw [putN (by decide +kernel), putN (by decide +kernel), putN (by decide +kernel), show putF "days" (V.ref q) [] = ([("days", V.ref q)] : List (Str × V)) from rfl, upd_upd_far xq]
      have nq5 : H5 q = none := by rw [upd_ne xq] at nq; exact nq
      have old : ∀ c o, c ≠ x → H5 c = some o → (upd (upd H5 q (.tup ds)) x (.ins C dx [("_rows", V.ref p), ("_plates", V.int a), ("_away", V.int b), ("days", V.ref q)])) c = some o := fun c o hc e => by
        rw [upd_ne hc, upd_ne (ne_of_none e nq5)]
        exact e
      refine k _ (fun c o hc e => old c o hc (e05 _ _ e)) ⟨dx, q, a, b, ds, upd_same, old _ _ xp hp5, ?_, ?_, h0⟩
      · rw [upd_ne xq, upd_same]
      · refine DV.keep fun p9 dx9 d9 h9 => ?_
        have q9 := e5 _ _ h9
        refine old _ _ (fun z => ?_) q9
        rw [z, hx5] at q9
        cases q9
end
end PW
namespace PW
open PySem PySem.Spec PyProof.Rows L2 Evl
/-! ### what a rule is asked -/
theorem sum_le : ∀ {ss : List Str}, (∀ x ∈ ss, x.length ≤ 1000) → (ss.map (·.length)).sum ≤ ss.length * 1000
  | [], _ => Nat.le_refl _
  | x :: ss, h => by
    have r := sum_le (ss := ss) fun y hy => h y (List.mem_cons_of_mem _ hy)
    have a := h x List.mem_cons_self
    simp only [List.map_cons, List.sum_cons, List.length_cons]
    omega
theorem Good.lens {ss : List Str} {a b : Int} (G : Good ss a b) : ∀ x ∈ ss, x.length ≤ 1000 := fun x hx => (fine_of (G.fine x hx)).1
theorem Good.join {ss : List Str} {a b : Int} (G : Good ss a b) : (ss.map (·.length)).sum + ss.length * (Str.ofString "\n").length ≤ 16777216 := by
  have s := sum_le G.lens
  have g := G.seven
  have one : (Str.ofString "\n").length = 1 := rfl
  rw [one]
  omega
def reprW (ss : List Str) : Str := Str.empty ++ "Rule of " ++ Str.ofString (toString ((ss.length - 1 : Nat) : Int)) ++ " days"
/-- the row with all that a rule holds; g: the answer -/
def spAsk (C : Addr) (g : Addr → List Str → Int → Int → V) : Sp := fun vs H Q _ => ∃ (x dx p q : Addr) (ss : List Str) (a b : Int), vs = [.ref x] ∧ H x = some (.ins C dx (ruleF p q a b)) ∧
  H p = some (.tup (ss.map V.str)) ∧ (∃ ds, H q = some (.tup ds) ∧ ds.length = ss.length - 1) ∧ Good ss a b ∧ ∀ H', Ex H H' → Q (g p ss a b) H'
theorem ruleF_rows (p q : Addr) (a b : Int) : (ruleF p q a b).lookup ("_rows" : Str) = some (V.ref p) := rfl
theorem ruleF_plates (p q : Addr) (a b : Int) : (ruleF p q a b).lookup ("_plates" : Str) = some (V.int a) := by
  have h1 : (("_plates" : Str) == "_rows") = false := by decide +kernel
  simp [ruleF, List.lookup, h1]
theorem ruleF_away (p q : Addr) (a b : Int) : (ruleF p q a b).lookup ("_away" : Str) = some (V.int b) := by
  have h1 : (("_away" : Str) == "_rows") = false := by decide +kernel
  have h3 : (("_away" : Str) == "_plates") = false := by decide +kernel
  simp [ruleF, List.lookup, h1, h3]
theorem ruleF_days (p q : Addr) (a b : Int) : (ruleF p q a b).lookup ("days" : Str) = some (V.ref q) := by
  have h1 : (("days" : Str) == "_rows") = false := by decide +kernel
  have h2 : (("days" : Str) == "_plates") = false := by decide +kernel
  have h3 : (("days" : Str) == "_away") = false := by decide +kernel
  simp [ruleF, List.lookup, h1, h2, h3]
abbrev sRows : Stmt := inClass (top 32) 2
abbrev sText : Stmt := inClass (top 32) 3
abbrev sPlates : Stmt := inClass (top 32) 4
abbrev sAway : Stmt := inClass (top 32) 5
abbrev sLen : Stmt := inClass (top 32) 7
abbrev sStr : Stmt := inClass (top 32) 9
abbrev sRepr : Stmt := inClass (top 32) 10
abbrev sEq : Stmt := inClass (top 32) 8
abbrev sRead : Stmt := inClass (top 32) 1
theorem scRows : FnScope ["self"] ["self"] (defScope sRows) := ⟨rfl, rfl, rfl, by decide +kernel, rfl, by decide +kernel, by decide +kernel⟩
theorem scText : FnScope ["self"] ["self"] (defScope sText) := ⟨rfl, rfl, rfl, by decide +kernel, rfl, by decide +kernel, by decide +kernel⟩
theorem scPlates : FnScope ["self"] ["self"] (defScope sPlates) := ⟨rfl, rfl, rfl, by decide +kernel, rfl, by decide +kernel, by decide +kernel⟩
theorem scAway : FnScope ["self"] ["self"] (defScope sAway) := ⟨rfl, rfl, rfl, by decide +kernel, rfl, by decide +kernel, by decide +kernel⟩
theorem scLen : FnScope ["self"] ["self"] (defScope sLen) := ⟨rfl, rfl, rfl, by decide +kernel, rfl, by decide +kernel, by decide +kernel⟩
theorem scStr : FnScope ["self"] ["self"] (defScope sStr) := ⟨rfl, rfl, rfl, by decide +kernel, rfl, by decide +kernel, by decide +kernel⟩
theorem scRepr : FnScope ["self"] ["self"] (defScope sRepr) := ⟨rfl, rfl, rfl, by decide +kernel, rfl, by decide +kernel, by decide +kernel⟩
theorem scEq : FnScope ["self", "other"] ["self", "other"] (defScope sEq) := ⟨rfl, rfl, rfl, by decide +kernel, rfl, by decide +kernel, by decide +kernel⟩
theorem scRead : FnScope ["cls", "text", "rows"] ["cls", "text"] (defScope sRead) := ⟨rfl, rfl, rfl, by decide +kernel, rfl, by decide +kernel, by decide +kernel⟩
section
variable {P : Program} {w : World} {K : PySem.W.Frag} {mg : Str → Option Value} {base : Heap} {f C CD : Addr} {fd : FuncData} {j : Nat}
theorem ok_Rows (F : Fun K "rows" "Rule.rows" sRows f fd) (B : Blt mg) (R : Ru K C) : FnOk P w K mg base CX0 (j + 1) f fd ["self"] (spAsk C (fun p _ _ _ => .ref p)) := by
  refine F.ok scRows (fun vs H Q E h => ?_) (fun cdv A outer s H vs Q E hr h => ?_)
  · obtain ⟨x, dx, p, q, ss, a, b, rfl, _⟩ := h
    rfl
  · obtain ⟨x, dx, p, q, ss, a, b, rfl, hx, hp, ⟨ds, hq, hds⟩, G, k⟩ := h
    refine ⟨_, pss_one (ps_ret (pe_fld (pv 0) rfl)), ?_⟩
    exact s_ret (ev_fld (ev_var rfl) hx R.cl R.nr (ruleF_rows p q a b)) fun H1 e1 => k H1 e1
theorem ok_Text (F : Fun K "text" "Rule.text" sText f fd) (B : Blt mg) (R : Ru K C) : FnOk P w K mg base CX0 (j + 1) f fd ["self"] (spAsk C (fun _ ss _ _ => .str (Txt.join "\n" ss))) := by
  refine F.ok scText (fun vs H Q E h => ?_) (fun cdv A outer s H vs Q E hr h => ?_)
  · obtain ⟨x, dx, p, q, ss, a, b, rfl, _⟩ := h
    rfl
  · obtain ⟨x, dx, p, q, ss, a, b, rfl, hx, hp, ⟨ds, hq, hds⟩, G, k⟩ := h
    refine ⟨_, pss_one (ps_ret (pe_join pe_str (pe_fld (pv 0) rfl))), ?_⟩
    have gj := G.join
    refine s_ret (v := .str (Txt.join "\n" ss)) (fun H1 e1 Q1 q1 => ⟨⟨_, rfl⟩, (ev_fld (ev_var rfl) hx R.cl R.nr (ruleF_rows p q a b)) H1 e1 _ fun H2 e2 => ⟨_, p, ss, rfl, rfl, .inr (st_of ((e1.trans e2) _ _ hp)), gj, q1 H2 e2⟩⟩) fun H1 e1 => k H1 e1
theorem ok_Plates (F : Fun K "plates" "Rule.plates" sPlates f fd) (B : Blt mg) (R : Ru K C) : FnOk P w K mg base CX0 (j + 1) f fd ["self"] (spAsk C (fun _ _ a _ => .int a)) := by
  refine F.ok scPlates (fun vs H Q E h => ?_) (fun cdv A outer s H vs Q E hr h => ?_)
  · obtain ⟨x, dx, p, q, ss, a, b, rfl, _⟩ := h
    rfl
  · obtain ⟨x, dx, p, q, ss, a, b, rfl, hx, hp, ⟨ds, hq, hds⟩, G, k⟩ := h
    refine ⟨_, pss_one (ps_ret (pe_fld (pv 0) rfl)), ?_⟩
    exact s_ret (ev_fld (ev_var rfl) hx R.cl R.np (ruleF_plates p q a b)) fun H1 e1 => k H1 e1
theorem ok_Away (F : Fun K "away" "Rule.away" sAway f fd) (B : Blt mg) (R : Ru K C) : FnOk P w K mg base CX0 (j + 1) f fd ["self"] (spAsk C (fun _ _ _ b => .int b)) := by
  refine F.ok scAway (fun vs H Q E h => ?_) (fun cdv A outer s H vs Q E hr h => ?_)
  · obtain ⟨x, dx, p, q, ss, a, b, rfl, _⟩ := h
    rfl
  · obtain ⟨x, dx, p, q, ss, a, b, rfl, hx, hp, ⟨ds, hq, hds⟩, G, k⟩ := h
    refine ⟨_, pss_one (ps_ret (pe_fld (pv 0) rfl)), ?_⟩
    exact s_ret (ev_fld (ev_var rfl) hx R.cl R.na (ruleF_away p q a b)) fun H1 e1 => k H1 e1
theorem ok_Len (F : Fun K "__len__" "Rule.__len__" sLen f fd) (B : Blt mg) (R : Ru K C) : FnOk P w K mg base CX0 (j + 1) f fd ["self"] (spAsk C (fun _ ss _ _ => .int ((ss.length - 1 : Nat) : Int))) := by
  refine F.ok scLen (fun vs H Q E h => ?_) (fun cdv A outer s H vs Q E hr h => ?_)
  · obtain ⟨x, dx, p, q, ss, a, b, rfl, _⟩ := h
    rfl
  · obtain ⟨x, dx, p, q, ss, a, b, rfl, hx, hp, ⟨ds, hq, hds⟩, G, k⟩ := h
    refine ⟨_, pss_one (ps_ret (pe_callB call_len_seq (by rfl) B.len PySem.boot_len (pa_cons (pe_fld (pv 0) rfl) pa_nil))), ?_⟩
    exact s_ret (ev_is (ev_lenT (ev_fld (ev_var rfl) hx R.cl R.nd (ruleF_days p q a b)) (st_of hq)) (by rw [hds])) fun H1 e1 => k H1 e1
theorem ok_Str (F : Fun K "__str__" "Rule.__str__" sStr f fd) (B : Blt mg) (R : Ru K C) : FnOk P w K mg base CX0 (j + 1) f fd ["self"] (spAsk C (fun _ ss _ _ => .str (Txt.join "\n" ss))) := by
  refine F.ok scStr (fun vs H Q E h => ?_) (fun cdv A outer s H vs Q E hr h => ?_)
  · obtain ⟨x, dx, p, q, ss, a, b, rfl, _⟩ := h
    rfl
  · obtain ⟨x, dx, p, q, ss, a, b, rfl, hx, hp, ⟨ds, hq, hds⟩, G, k⟩ := h
    refine ⟨_, pss_one (ps_ret (pe_join pe_str (pe_fld (pv 0) rfl))), ?_⟩
    have gj := G.join
    refine s_ret (v := .str (Txt.join "\n" ss)) (fun H1 e1 Q1 q1 => ⟨⟨_, rfl⟩, (ev_fld (ev_var rfl) hx R.cl R.nr (ruleF_rows p q a b)) H1 e1 _ fun H2 e2 => ⟨_, p, ss, rfl, rfl, .inr (st_of ((e1.trans e2) _ _ hp)), gj, q1 H2 e2⟩⟩) fun H1 e1 => k H1 e1
theorem ok_Repr (F : Fun K "__repr__" "Rule.__repr__" sRepr f fd) (B : Blt mg) (R : Ru K C) : FnOk P w K mg base CX0 (j + 1) f fd ["self"] (spAsk C (fun _ ss _ _ => .str (reprW ss))) := by
  refine F.ok scRepr (fun vs H Q E h => ?_) (fun cdv A outer s H vs Q E hr h => ?_)
  · obtain ⟨x, dx, p, q, ss, a, b, rfl, _⟩ := h
    rfl
  · obtain ⟨x, dx, p, q, ss, a, b, rfl, hx, hp, ⟨ds, hq, hds⟩, G, k⟩ := h
    refine ⟨_, pss_one (ps_ret (pe_joined (.cons pe_str (.cons (pe_fmt (pe_callB call_len_seq (by rfl) B.len PySem.boot_len (pa_cons (pe_fld (pv 0) rfl) pa_nil))) (.cons pe_str .nil))))), ?_⟩
    have g7 := G.seven
    have small : (((ss.length - 1 : Nat) : Int)).natAbs.log2 < 1920 := by
      have z : ∀ n, n < 7 → (((n : Nat) : Int)).natAbs.log2 < 1920 := by decide
      exact z _ (by omega)
    have len : ∀ n, n < 7 → (Str.empty ++ "Rule of " ++ Str.ofString (toString ((n : Nat) : Int)) ++ " days").length ≤ 100 ∧ (Str.empty ++ "Rule of " ++ Str.ofString (toString ((n : Nat) : Int))).length ≤ 100 := by decide +kernel
    refine s_ret (v := .str (reprW ss)) (fun H1 e1 Q1 q1 => ⟨_, rfl, by decide, ?_⟩) fun H1 e1 => k H1 e1
    have many : Ev (tCB (rLenS K) (tCons (tFld K (tVar 0) "days") tNil)) [some (V.ref x)] H (.int ((ss.length - 1 : Nat) : Int)) := ev_is (ev_lenT (ev_fld (ev_var rfl) hx R.cl R.nd (ruleF_days p q a b)) (st_of hq)) (by rw [hds])
    show tFmt (tCB (rLenS K) (tCons (tFld K (tVar 0) "days") tNil)) [some (V.ref x)] H1 _
    refine many H1 e1 _ fun H2 e2 => ?_
    exact .inr ⟨_, rfl, small, _, rfl, Nat.le_trans (len (ss.length - 1) (by omega)).2 (by decide), _, rfl, Nat.le_trans (len (ss.length - 1) (by omega)).1 (by decide), q1 H2 e2⟩
def rowsD (ss : List Str) : PyData := .tuple (ss.map PyData.str)
theorem rows_shaped {ss : List Str} (h : OkW ss) : SeqAt.shaped (rowsD ss) = true := strs_shaped h
/-- what isinstance asks of the class Rule -/
structure IsC (K : PySem.W.Frag) (C : Addr) : Prop where
  ha : PySem.W.findIn K (.ref C) "__class__" = some (some (.builtin "object.__class__"))
  hn : PySem.W.specialIn K (.builtin "object.__class__") "__get__" = some (some (.builtin "getset_descriptor.__get__"))
  htk : PySem.W.takesIn K (.builtin "object.__class__") = some true
  hm : PySem.W.mroIn K C (.type "object") = some true
theorem IsC.ty {H : Hp} {x dx : Addr} {fs : List (Str × V)} (I : IsC K C) (R : Ru K C) (h : H x = some (.ins C dx fs)) : TyX K H (.ref x) (.ref C) := .base (.ins h R.cl I.ha I.hn I.htk I.hm)
theorem kit_self : PySem.W.kitOne K (.ref C) (.ref C) = some true := by
  unfold PySem.W.kitOne
  rw [if_pos (by simp)]
def spEq (K : PySem.W.Frag) (C : Addr) : Sp := fun vs H Q _ => ∃ (x dx p q : Addr) (ss : List Str) (a b : Int) (y : V), vs = [.ref x, y] ∧ H x = some (.ins C dx (ruleF p q a b)) ∧
  H p = some (.tup (ss.map V.str)) ∧ Good ss a b ∧
  ((∃ (x2 dx2 p2 q2 : Addr) (ss2 : List Str) (a2 b2 : Int), y = .ref x2 ∧ H x2 = some (.ins C dx2 (ruleF p2 q2 a2 b2)) ∧ H p2 = some (.tup (ss2.map V.str)) ∧ Good ss2 a2 b2 ∧
    ∀ H', Ex H H' → Q (.bl (PyData.eqv (rowsD ss) (rowsD ss2))) H') ∨
   ∃ t, (∀ H1, Ex H H1 → TyX K H1 y t) ∧ PySem.W.kitOne K t (.ref C) = some false ∧ ∀ H', Ex H H' → Q (.bl false) H')
theorem ok_Eq (F : Fun K "__eq__" "Rule.__eq__" sEq f fd) (B : Blt mg) (R : Ru K C) (I : IsC K C) (mC : mg "Rule" = some (.ref C)) : FnOk P w K mg base CX0 (j + 1) f fd ["self", "other"] (spEq K C) := by
  refine F.ok scEq (fun vs H Q E h => ?_) (fun cdv A outer s H vs Q E hr h => ?_)
  · obtain ⟨x, dx, p, q, ss, a, b, y, rfl, _⟩ := h
    rfl
  · obtain ⟨x, dx, p, q, ss, a, b, y, rfl, hx, hp, G, h⟩ := h
    have hu : A.units + 3 + 64 < cLine := hr.units
    refine ⟨_, pss_one (ps_ret (pe_and (pe_callB call_isi (by rfl) B.isi bIsi (pa_cons (pv 1) (pa_cons (pe_glob (v := .ref C) (by rfl) mC rfl) pa_nil))) (pe_one (pe_cmpR (op_eqD hu) (pe_fld (pv 0) rfl) (pe_fld (pv 1) rfl) (nomark _))))), ?_⟩
    rcases h with ⟨x2, dx2, p2, q2, ss2, a2, b2, rfl, hx2, hp2, G2, k⟩ | ⟨t, ty, kt, k⟩
    · refine s_ret (v := .bl (PyData.eqv (rowsD ss) (rowsD ss2))) (ev_is (ev_andV (ev_isi (ev_var rfl) ev_c (.own _) (fun H1 e1 => I.ty R (e1 _ _ hx2)) kit_self)
        (fun _ => ev_eqD (d := rowsD ss) (e := rowsD ss2) (ev_fld (ev_var rfl) hx R.cl R.nr (ruleF_rows p q a b)) (ev_fld (ev_var rfl) hx2 R.cl R.nr (ruleF_rows p2 q2 a2 b2))
          (.tup (st_of hp) (dp_strs ss)) (.tup (st_of hp2) (dp_strs ss2)) (rows_shaped G.oks) (rows_shaped G2.oks))) rfl) fun H1 e1 => k H1 e1
    · exact s_ret (v := .bl false) (ev_andV (b := false) (ev_isi (ev_var rfl) ev_c (.own _) ty kt) (fun z => nomatch z)) fun H1 e1 => k H1 e1
def spInit (C CD : Addr) : Sp := fun vs H Q _ => ∃ (x dx p : Addr) (ss : List Str) (a b : Int), vs = [.ref x, .ref p] ∧ H x = some (.ins C dx []) ∧ H p = some (.tup (ss.map V.str)) ∧ Good ss a b ∧
  ∀ H', (∀ c o, c ≠ x → H c = some o → H' c = some o) → RuleAt H' C CD x ss a b → Q .non H'
/-- a rule that is made with these rows -/
def spStar (C CD : Addr) : Sp := fun vs H Q E => ∃ ws rest, vs = ws ++ rest ∧ ws.length = (["self"] : List Str).length ∧ rest.length ≤ sizeLine ∧ ∀ p, H p = none → spInit C CD (ws ++ [V.ref p]) (upd H p (.tup rest)) Q E
theorem star_made {H1 : Hp} {x dx : Addr} {ss : List Str} {a b : Int} {Q : VK} {E : XK} (G : Good ss a b) (hx : H1 x = none) (hdx : H1 dx = none) (ne : dx ≠ x)
    (q : ∀ H', Ex H1 H' → RuleAt H' C CD x ss a b → Q .non H') : spStar C CD (V.ref x :: ss.map V.str) (upd (upd H1 dx (.own x)) x (.ins C dx [])) Q E := by
  have g7 := G.seven
  refine ⟨[.ref x], ss.map V.str, rfl, rfl, ?_, fun p hp => ⟨x, dx, p, ss, a, b, rfl, ?_, upd_same, G, fun H' keep r => q H' (fun c o e => ?_) r⟩⟩
  · rw [List.length_map]
    exact Nat.le_trans g7 (by decide)
  · have xp : x ≠ p := fun z => by
      rw [← z, upd_same] at hp
      cases hp
    rw [upd_ne xp, upd_same]
  · have c1 : c ≠ x := ne_of_none e hx
    have c2 : c ≠ dx := ne_of_none e hdx
    have c3 : c ≠ p := fun z => by
      rw [← z, upd_ne c1, upd_ne c2, e] at hp
      cases hp
    refine keep c o c1 ?_
    rw [upd_ne c3, upd_ne c1, upd_ne c2]
    exact e
theorem bind_map_some {os : List Str} : ((os.map some).drop 1).map (·.bind dayOf) = (os.drop 1).map dayOf := by
  rw [← List.map_drop, List.map_map]
  rfl
theorem Good.flaw {ss : List Str} {a b : Int} (G : Good ss a b) : flawOf (ss.map some) = none := by
  have g2 := G.two
  have g7 := G.seven
  have h0 : ((ss.map some).getD 0 none).bind firstOf = some (a, b) := by
    have e : (ss.map some).getD 0 none = some (ss.getD 0 "") := by
      rw [List.getD_eq_getElem?_getD, List.getElem?_map, List.getElem?_eq_getElem (by omega), List.getD_eq_getElem?_getD, List.getElem?_eq_getElem (by omega)]
      rfl
    rw [e]
    exact G.head
  have hd : (daysOf (ss.map some)).findIdx? Option.isNone = none := by
    refine List.findIdx?_eq_none_iff.mpr fun o ho => ?_
    rw [daysOf, bind_map_some] at ho
    obtain ⟨s, hs, rfl⟩ := List.mem_map.mp ho
    obtain ⟨i, hi⟩ := List.mem_iff_getElem?.mp hs
    rw [List.getElem?_drop] at hi
    have hlt := (List.getElem?_eq_some_iff.mp hi).1
    have z := G.days (1 + i) (by omega) hlt
    rw [List.getD_eq_getElem?_getD, hi] at z
    have z' : (dayOf s).isSome = true := z
    cases q : dayOf s with
    | none => rw [q] at z'; cases z'
    | some d => rfl
  unfold flawOf
  rw [if_pos (by rw [List.length_map]; omega), h0, hd]
  rfl
theorem Good.rowV {K : PySem.W.Frag} {H : Hp} {ss : List Str} {a b : Int} (G : Good ss a b) (i : Nat) (v : V) (h : (ss.map V.str)[i]? = some v) : RowV K H v ((ss.map some).getD i none) := by
  rw [List.getElem?_map] at h
  cases hq : ss[i]? with
  | none =>
    rw [hq] at h
    cases h
  | some y =>
    rw [hq] at h
    obtain rfl := Option.some.inj h
    have e : (ss.map some).getD i none = some y := by
      rw [List.getD_eq_getElem?_getD, List.getElem?_map, hq]
      rfl
    rw [e]
    have f := fine_of (G.fine y (List.mem_of_getElem? hq))
    exact ⟨rfl, f.1, f.2.1, f.2.2⟩
def spStarX (K : PySem.W.Frag) (C CR CD : Addr) : Sp := fun vs H Q E => ∃ ws rest, vs = ws ++ rest ∧ ws.length = (["self"] : List Str).length ∧ rest.length ≤ sizeLine ∧ ∀ p, H p = none → spInitX K C CR CD (ws ++ [V.ref p]) (upd H p (.tup rest)) Q E
theorem init_of {CR : Addr} {vs : List V} {H : Hp} {Q : VK} {E : XK} (h : spInit C CD vs H Q E) : spInitX K C CR CD vs H Q E0 := by
  obtain ⟨x, dx, p, ss, a, b, rfl, hx, hp, G, k⟩ := h
  have g7 := G.seven
  refine ⟨x, dx, p, ss.map V.str, ss.map some, rfl, hx, hp, by rw [List.length_map]; omega, by rw [List.length_map, List.length_map], G.rowV, ?_⟩
  rw [G.flaw]
  rintro H' keep ⟨dx', q, a', b', ds, r1, r2, r3, r4, r5⟩
  have h0 : ((ss.map some).getD 0 none).bind firstOf = some (a, b) := by
    have g2 := G.two
    have e : (ss.map some).getD 0 none = some (ss.getD 0 "") := by
      rw [List.getD_eq_getElem?_getD, List.getElem?_map, List.getElem?_eq_getElem (by omega), List.getD_eq_getElem?_getD, List.getElem?_eq_getElem (by omega)]
      rfl
    rw [e]
    exact G.head
  rw [h0] at r5
  obtain ⟨rfl, rfl⟩ := Prod.mk.inj (Option.some.inj r5)
  rw [daysOf, bind_map_some] at r4
  exact k H' keep ⟨dx', p, q, ds, r1, r2, r3, r4⟩
theorem ok_init {fn fe fc ft fy ff fI CR fR f : Addr} {nd ed cd td yd qd dI dR fd : FuncData} (F : Fun K "__init__" "Rule.__init__" sInit f fd) (B : Blt mg) (L : Lim mg) (R : Ru K C) (Z : Texts K mg fn fe fc ft fy ff CD fI nd ed cd td yd qd dI) (D : Bad K mg CR fR dR) :
    FnR P w K mg base CX0 5 f (spStar C CD) := noN_R (ok_initX F B L R Z D) fun vs H Q E h => by
  obtain ⟨ws, rest, rfl, h1, h2, h3⟩ := h
  exact ⟨ws, rest, rfl, h1, h2, fun p hp => init_of (h3 p hp)⟩
def spRead (C CD : Addr) : Sp := fun vs H Q _ => ∃ (s : Str) (a b : Int), vs = [.ref C, .str s] ∧ s.length ≤ 100000 ∧ Good (Txt.split s "\n") a b ∧
  ∀ x H', H x = none → Ex H H' → RuleAt H' C CD x (Txt.split s "\n") a b → Q (.ref x) H'
theorem el_split2 {σ : L2.St} {H : Hp} {te tb : TE} {a b : Str} (ha : Ev te σ H (.str a)) (hb : Ev tb σ H (.str b)) (hz : a.length ≤ 100000) (h : (b.length == 0) = false) :
    EvL (tM1 (fun x xs H Q => ∃ a b, x = .str a ∧ xs = [.str b] ∧ (b.length == 0) = false ∧ a.length + 2 ≤ sizeLine ∧ rNewStrs (Txt.split a b) H Q) te tb) σ H ((Txt.split a b).map V.str) := fun H1 e Q q =>
  ha H1 e _ fun H2 e2 => ⟨⟨a, rfl⟩, hb H2 (e.trans e2) _ fun H3 e3 => ⟨a, b, rfl, rfl, h, Nat.le_trans (show a.length + 2 ≤ 100002 by omega) (by decide), fun p hp =>
    q p _ (fresh_back (e2.trans e3) hp) ((e2.trans e3).trans (Ex.new hp)) upd_same⟩⟩
theorem ok_Read {fI CR : Addr} (F : Fun K "read" "Rule.read" sRead f fd) (B : Blt mg) (M : Mk K C fI) (GI : FnR P w K mg base CX0 (j + 1) fI (spStar C CD)) (mR : mg "InvalidRows" = some (.ref CR)) :
    FnOk P w K mg base CX0 (j + 3) f fd ["cls", "text"] (spRead C CD) := by
  refine F.ok scRead (fun vs H Q E h => ?_) (fun cdv A outer st H vs Q E hr h => ?_)
  · obtain ⟨s, a, b, rfl, _⟩ := h
    rfl
  · obtain ⟨s, a, b, rfl, hz, G, k⟩ := h
    refine ⟨_, pss_cons (ps_if (pt_not (pt_val (pe_callB call_isi (by rfl) B.isi bIsi (pa_cons (pv 1) (pa_cons (pe_bltn (v := .ty "str") (by rfl) B.str bStr rfl) pa_nil))))) (pss_one ps_never) pss_nil)
      (pss_cons (ps_set (i := 2) scRead.nd rfl (.inl rfl) (pe_split (pv 1) pe_str))
      (pss_one (ps_try_only rfl rfl ⟨rfl, by decide, .inl mR⟩ takes0 (fun W pn xe tk _ => pss_one (ps_ret (show PE ((cxOf CX0 P w K mg base ["cls", "text", "rows"] "Rule.read" (defScope sRead) f cdv A outer st H E).nox.tr pn xe) _ (tMakeS K C (spStar C CD) E0 (tVar 0) (tVar 2)) from pe_makeS (X := ((cxOf CX0 P w K mg base ["cls", "text", "rows"] "Rule.read" (defScope sRead) f cdv A outer st H E).nox.tr pn xe)) M GI hr pass0 (pv 0) (pv 2)))) (fun a oe cls d pn _ _ => pss_one ps_never)))), ?_⟩
    refine q_when (b := false) (et_is (et_not (et_B (ev_isi (ev_var rfl) ev_c (.ty _) (fun _ _ => .base (.str s)) kit_str))) rfl) (fun z => nomatch z) fun _ H1 e1 => ?_
    refine q_asgL (el_split2 (ev_var rfl) ev_c hz rfl) fun p H2 n2 e2 h2 => ?_
    exact ⟨.ref C, rfl, rfl, .ref p, rfl, p, _, rfl, .inr (sq_of h2), fun x dx hx hdx ne => star_made G hx hdx ne fun H' e' r => ⟨rfl, k x H' (fresh_back (e1.trans e2) hx) ((e1.trans e2).trans e') r⟩⟩
end
end PW
namespace PW
open PySem PySem.Spec PyProof.Rows L2 Evl
/-! ### days that go by -/
theorem dats_get {H : Hp} : ∀ {xs : List V} {ds : List PyData} {i : Nat} {d : PyData}, Dats H xs ds → ds[i]? = some d → ∃ x, xs[i]? = some x ∧ Dat H x d
  | _, _, i, _, .nil, h => by simp at h
  | _, _, 0, _, .cons a r, h => by
    obtain rfl := Option.some.inj h
    exact ⟨_, rfl, a⟩
  | _, _, i + 1, _, .cons a r, h => by
    obtain ⟨x, h1, h2⟩ := dats_get (i := i) r h
    exact ⟨x, h1, h2⟩
theorem dats_drop {H : Hp} : ∀ {xs : List V} {ds : List PyData} (n : Nat), Dats H xs ds → Dats H (xs.drop n) (ds.drop n)
  | _, _, 0, h => h
  | _, _, n + 1, .nil => .nil
  | _, _, n + 1, .cons a r => dats_drop n r
/-- lists of numbers, each a tuple without a dict or an empty one -/
inductive IsNs (H : Hp) : List V → List (List Int) → Prop
  | nil : IsNs H [] []
  | cons {v : V} {vs : List V} {n : List Int} {ns : List (List Int)} : IsN (n.map V.int) H v → IsNs H vs ns → IsNs H (v :: vs) (n :: ns)
theorem isN_dat {H : Hp} {v : V} {ns : List Int} (h : IsN (ns.map V.int) H v) : Dat H v (intsD ns) := by
  obtain ⟨p, rfl, r, _⟩ := h
  exact dat_ints r
theorem IsNs.dats {H : Hp} : ∀ {vs : List V} {ns : List (List Int)}, IsNs H vs ns → Dats H vs (ns.map intsD)
  | _, _, .nil => .nil
  | _, _, .cons a r => .cons (isN_dat a) r.dats
theorem IsNs.ext {H H' : Hp} (e : Ex H H') : ∀ {vs : List V} {ns : List (List Int)}, IsNs H vs ns → IsNs H' vs ns
  | _, _, .nil => .nil
  | _, _, .cons a r => .cons (isN_mono _ _ _ _ e a) (r.ext e)
theorem IsNs.len {H : Hp} : ∀ {vs : List V} {ns : List (List Int)}, IsNs H vs ns → vs.length = ns.length
  | _, _, .nil => rfl
  | _, _, .cons _ r => congrArg (· + 1) r.len
theorem IsNs.app {H : Hp} {v : V} {n : List Int} (h : IsN (n.map V.int) H v) : ∀ {vs : List V} {ns : List (List Int)}, IsNs H vs ns → IsNs H (vs ++ [v]) (ns ++ [n])
  | _, _, .nil => .cons h .nil
  | _, _, .cons a r => .cons a (r.app h)
theorem IsNs.tail {H : Hp} {vs : List V} {ns : List (List Int)} (h : IsNs H vs ns) : IsNs H (vs.drop 1) (ns.drop 1) := by
  cases h with
  | nil => exact .nil
  | cons a r => exact r
theorem IsNs.first {H : Hp} {vs : List V} {ns : List (List Int)} (h : IsNs H vs ns) (hn : ns ≠ []) : ∃ v, vs[0]? = some v ∧ IsN ((ns.getD 0 []).map V.int) H v := by
  cases h with
  | nil => exact absurd rfl hn
  | cons a r => exact ⟨_, rfl, a⟩
/-- what a day lets: the least and the greatest number -/
def letsOf (d : DayD) (n : Int) : Option (Int × Int) := if n < d.least then none else some (d.least, if n < d.most then n else d.most)
def rearr (d : DayD) (pile : List Int) : List Int := if d.word = "turn" then pile.reverse else if d.word = "cut" then pile.drop d.depth.toNat ++ pile.take d.depth.toNat else pile
def laidBack (d : DayD) (pile heap : List Int) : List Int := pile.take d.depth.toNat ++ (if d.turned then heap.reverse else heap) ++ pile.drop d.depth.toNat
/-- which day's row laid the heap away that comes back -/
def takenIx (n row : Nat) (late : Nat) : Nat := (((row : Int) + 1 - ((late + 1 : Nat) : Int)) % (n : Int)).toNat
def dayNone : DayD := ⟨"", 0, 0, 0, false⟩
def behindDay (ds : List DayD) (row : Nat) (pile : List Int) (heaps : List (List Int)) (k : Int) : List Int × List (List Int) :=
  (laidBack (ds.getD (takenIx ds.length row heaps.length) dayNone) (rearr (ds.getD row dayNone) (pile.drop k.toNat)) ((heaps ++ [pile.take k.toNat]).getD 0 []), (heaps ++ [pile.take k.toNat]).drop 1)
def LetsV (H : Hp) : Option (Int × Int) → V → Prop
  | none, u => u = .non
  | some (a, b), u => ∃ p, u = .ref p ∧ Rd H p (.tup [.int a, .int b])
theorem LetsV.ext {H H' : Hp} {u : V} : ∀ {o : Option (Int × Int)}, LetsV H o u → Ex H H' → LetsV H' o u
  | none, h, _ => h
  | some (_, _), ⟨p, e, h⟩, x => ⟨p, e, ex_rd x h⟩
theorem dayF_word (d : DayD) : (dayF d).lookup ("word" : Str) = some (.str d.word) := rfl
theorem dayF_least (d : DayD) : (dayF d).lookup ("least" : Str) = some (.int d.least) := by
  have h1 : (("least" : Str) == "word") = false := by decide +kernel
  simp [dayF, List.lookup, h1]
theorem dayF_most (d : DayD) : (dayF d).lookup ("most" : Str) = some (.int d.most) := by
  have h1 : (("most" : Str) == "word") = false := by decide +kernel
  have h2 : (("most" : Str) == "least") = false := by decide +kernel
  simp [dayF, List.lookup, h1, h2]
theorem dayF_depth (d : DayD) : (dayF d).lookup ("depth" : Str) = some (.int d.depth) := by
  have h1 : (("depth" : Str) == "word") = false := by decide +kernel
  have h2 : (("depth" : Str) == "least") = false := by decide +kernel
  have h3 : (("depth" : Str) == "most") = false := by decide +kernel
  simp [dayF, List.lookup, h1, h2, h3]
theorem dayF_turned (d : DayD) : (dayF d).lookup ("turned" : Str) = some (.bl d.turned) := by
  have h1 : (("turned" : Str) == "word") = false := by decide +kernel
  have h2 : (("turned" : Str) == "least") = false := by decide +kernel
  have h3 : (("turned" : Str) == "most") = false := by decide +kernel
  have h4 : (("turned" : Str) == "depth") = false := by decide +kernel
  simp [dayF, List.lookup, h1, h2, h3, h4]
abbrev sLets : Stmt := top 26
abbrev sRe : Stmt := top 27
abbrev sLaid : Stmt := top 28
abbrev sBeh : Stmt := top 29
theorem scLets : FnScope ["day", "lying"] ["day", "lying"] (defScope sLets) := ⟨rfl, rfl, rfl, by decide +kernel, rfl, by decide +kernel, by decide +kernel⟩
theorem scRe : FnScope ["day", "pile"] ["day", "pile"] (defScope sRe) := ⟨rfl, rfl, rfl, by decide +kernel, rfl, by decide +kernel, by decide +kernel⟩
theorem scLaid : FnScope ["day", "pile", "heap"] ["day", "pile", "heap"] (defScope sLaid) := ⟨rfl, rfl, rfl, by decide +kernel, rfl, by decide +kernel, by decide +kernel⟩
theorem scBeh : FnScope ["days", "row", "pile", "heaps", "number", "taken"] ["days", "row", "pile", "heaps", "number"] (defScope sBeh) := ⟨rfl, rfl, rfl, by decide +kernel, rfl, by decide +kernel, by decide +kernel⟩
/-- the attributes of Day, to be read -/
structure DyR (K : PySem.W.Frag) (CD : Addr) : Prop where
  cl : Cls K CD
  n0 : NoAttr K CD "word"
  n1 : NoAttr K CD "least"
  n2 : NoAttr K CD "most"
  n3 : NoAttr K CD "depth"
  n4 : NoAttr K CD "turned"
def spLets (CD : Addr) : Sp := fun vs H Q _ => ∃ (p : Addr) (d : DayD) (n : Int), vs = [.ref p, .int n] ∧ DayAt CD H p d ∧ ∀ u H', Ex H H' → LetsV H' (letsOf d n) u → Q u H'
def spRe (CD : Addr) : Sp := fun vs H Q _ => ∃ (p : Addr) (a : V) (d : DayD) (ns : List Int), vs = [.ref p, a] ∧ DayAt CD H p d ∧ IsN (ns.map V.int) H a ∧ 0 ≤ d.depth ∧ ns.length ≤ 1000 ∧
  ∀ r H', Ex H H' → IsN ((rearr d ns).map V.int) H' r → Q r H'
def spLaid (CD : Addr) : Sp := fun vs H Q _ => ∃ (p : Addr) (a b : V) (d : DayD) (ns ms : List Int), vs = [.ref p, a, b] ∧ DayAt CD H p d ∧ IsN (ns.map V.int) H a ∧ IsN (ms.map V.int) H b ∧ 0 ≤ d.depth ∧ ns.length ≤ 1000 ∧ ms.length ≤ 1000 ∧
  ∀ r H', Ex H H' → IsN ((laidBack d ns ms).map V.int) H' r → Q r H'
def spBeh (CD : Addr) : Sp := fun vs H Q _ => ∃ (q h : Addr) (a : V) (dv hv : List V) (dd : List DayD) (row : Nat) (pile : List Int) (heaps : List (List Int)) (k : Int), vs = [.ref q, .int (row : Int), a, .ref h, .int k] ∧
  Rd H q (.tup dv) ∧ DaysV CD H (dd.map some) dv ∧ row < dd.length ∧ IsN (pile.map V.int) H a ∧ Rd H h (.tup hv) ∧ IsNs H hv heaps ∧ 0 ≤ k ∧ (∀ d ∈ dd, 0 ≤ d.depth) ∧ pile.length ≤ 1000 ∧ (∀ x ∈ heaps, x.length ≤ 1000) ∧ heaps.length ≤ 1000 ∧
  ∀ t u v2 hv2 H', Ex H H' → H' t = some (.tup [u, .ref v2]) → IsN ((behindDay dd row pile heaps k).1.map V.int) H' u → Rd H' v2 (.tup hv2) → IsNs H' hv2 (behindDay dd row pile heaps k).2 → Q (.ref t) H'
section
variable {P : Program} {w : World} {K : PySem.W.Frag} {mg : Str → Option Value} {base : Heap} {CD f : Addr} {fd : FuncData} {j : Nat}
theorem ok_lets (F : Fun K "numbers_let" "numbers_let" sLets f fd) (B : Blt mg) (D : DyR K CD) : FnOk P w K mg base CX0 (j + 1) f fd ["day", "lying"] (spLets CD) := by
  refine F.ok scLets (fun vs H Q E h => ?_) (fun cdv A outer s H vs Q E hr h => ?_)
  · obtain ⟨p, d, n, rfl, _⟩ := h
    rfl
  · obtain ⟨p, d, n, rfl, ⟨dx, hp⟩, k⟩ := h
    refine ⟨_, (pss_cons (ps_if (pt_cmpR op_lt (pv 1) (pe_fld (pv 0) rfl) (nomark _)) (pss_one (ps_ret pe_non)) pss_nil)
      (pss_one (ps_ret (pe_tup (pa_cons (pe_fld (pv 0) rfl) (pa_cons (pe_callB (call_min2 rfl) (by rfl) B.min bMin (pa_cons (pe_fld (pv 0) rfl) (pa_cons (pv 1) pa_nil))) pa_nil)))))), ?_⟩
    refine q_when (b := decide (n < d.least)) (et_test (ev_op (ev_var rfl) (ev_fld (ev_var rfl) hp D.cl D.n1 (dayF_least d)) rv_I0)) (fun z H1 e1 => ?_) (fun z H1 e1 => ?_)
    · refine s_ret ev_c fun H2 e2 => k _ H2 (e1.trans e2) ?_
      rw [letsOf, if_pos (of_decide_eq_true z)]
      rfl
    · have hp1 := e1 _ _ hp
      refine s_retU (eu_tup (vs := [.int d.least, .int (if n < d.most then n else d.most)]) (ea_cons (ev_fld (ev_var rfl) hp1 D.cl D.n1 (dayF_least d)) (ea_cons (ev_cb (ea_cons (ev_fld (ev_var rfl) hp1 D.cl D.n2 (dayF_most d)) (ea_cons (ev_var rfl) ea_nil)) fun H5 e5 Q5 q5 => ⟨_, _, rfl, q5 H5 (Ex.refl H5)⟩) ea_nil)) (Nat.le_of_ble_eq_true rfl)) fun r H2 n2 e2 h2 => k _ H2 (e1.trans e2) ?_
      rw [letsOf, if_neg (of_decide_eq_false z)]
      exact ⟨r, rfl, .inl h2⟩
theorem en_is {te : TE} {σ : L2.St} {H : Hp} {xs ys : List V} (h : EvR te σ H (IsN xs)) (e : xs = ys) : EvR te σ H (IsN ys) := e ▸ h
theorem ok_re (F : Fun K "rearranged" "rearranged" sRe f fd) (D : DyR K CD) : FnOk P w K mg base CX0 (j + 1) f fd ["day", "pile"] (spRe CD) := by
  refine F.ok scRe (fun vs H Q E h => ?_) (fun cdv A outer s H vs Q E hr h => ?_)
  · obtain ⟨p, a, d, ns, rfl, _⟩ := h
    rfl
  · obtain ⟨p, a, d, ns, rfl, ⟨dx, hp⟩, ha, d0, hz, k⟩ := h
    obtain ⟨a, rfl, ha'⟩ := id ha
    refine ⟨_, (pss_cons (ps_if (pt_cmpR op_eq (pe_fld (pv 0) rfl) pe_str (nomark _)) (pss_one (ps_ret (pe_revN (pv 1)))) pss_nil)
      (pss_cons (ps_if (pt_cmpR op_eq (pe_fld (pv 0) rfl) pe_str (nomark _)) (pss_one (ps_ret (pe_op op_catN (pe_slice sl_tupN (pv 1) (po_some (pe_fld (pv 0) rfl)) po_none) (pe_slice sl_tupN (pv 1) po_none (po_some (pe_fld (pv 0) rfl)))))) pss_nil)
      (pss_one (ps_ret (pv 1))))), ?_⟩
    refine q_when (b := decide (V.str d.word = V.str "turn")) (et_test (ev_op (ev_fld (ev_var rfl) hp D.cl D.n0 (dayF_word d)) ev_c (rv_eq rfl))) (fun z H1 e1 => ?_) (fun z H1 e1 => ?_)
    · have z' : d.word = "turn" := by simpa using z
      refine s_retR (en_rev (en_of (ev_var rfl) (isN_mono _ _ _ _ e1 ha))) fun v H2 e2 hv => ?_
      refine k v H2 (e1.trans e2) ?_
      rw [rearr, if_pos z', List.map_reverse]
      exact hv
    have z' : ¬ d.word = "turn" := by simpa using z
    have hp1 := e1 _ _ hp
    refine q_when (b := decide (V.str d.word = V.str "cut")) (et_test (ev_op (ev_fld (ev_var rfl) hp1 D.cl D.n0 (dayF_word d)) ev_c (rv_eq rfl))) (fun z2 H2 e2 => ?_) (fun z2 H2 e2 => ?_)
    · have z2' : d.word = "cut" := by simpa using z2
      have hp2 := e2 _ _ hp1
      have ha2 := isN_mono _ _ _ _ (e1.trans e2) ha
      refine s_retR (en_cat (en_is (en_slice (en_of (ev_var rfl) ha2) (eo_some (ev_fld (ev_var rfl) hp2 D.cl D.n3 (dayF_depth d))) eo_none) (cut_from d0)) (en_is (en_slice (en_of (ev_var rfl) ha2) eo_none (eo_some (ev_fld (ev_var rfl) hp2 D.cl D.n3 (dayF_depth d)))) (cut_to d0)) (by
        rw [List.length_drop, List.length_take, List.length_map]
        omega)) fun v H3 e3 hv => ?_
      refine k v H3 ((e1.trans e2).trans e3) ?_
      rw [rearr, if_neg z', if_pos z2', List.map_append, List.map_drop, List.map_take]
      exact hv
    · have z2' : ¬ d.word = "cut" := by simpa using z2
      refine s_ret (ev_var rfl) fun H3 e3 => k _ H3 ((e1.trans e2).trans e3) ?_
      rw [rearr, if_neg z', if_neg z2']
      exact isN_mono _ _ _ _ ((e1.trans e2).trans e3) ha
theorem ok_laid (F : Fun K "laid_back" "laid_back" sLaid f fd) (D : DyR K CD) : FnOk P w K mg base CX0 (j + 1) f fd ["day", "pile", "heap"] (spLaid CD) := by
  refine F.ok scLaid (fun vs H Q E h => ?_) (fun cdv A outer s H vs Q E hr h => ?_)
  · obtain ⟨p, a, b, d, ns, ms, rfl, _⟩ := h
    rfl
  · obtain ⟨p, a, b, d, ns, ms, rfl, ⟨dx, hp⟩, ha, hb, d0, hz, hz2, k⟩ := h
    obtain ⟨a, rfl, ha'⟩ := id ha
    obtain ⟨b, rfl, hb'⟩ := id hb
    refine ⟨_, (pss_cons (ps_if (pt_val (pe_fld (pv 0) rfl)) (pss_one (ps_set (i := 2) scLaid.nd rfl (.inl rfl) (pe_revN (pv 2)))) pss_nil)
      (pss_one (ps_ret (pe_op op_catN (pe_op op_catN (pe_slice sl_tupN (pv 1) po_none (po_some (pe_fld (pv 0) rfl))) (pv 2)) (pe_slice sl_tupN (pv 1) (po_some (pe_fld (pv 0) rfl)) po_none))))), ?_⟩
    have fin : ∀ {H1 : Hp} {b1 : Addr} {ks : List Int}, Ex H H1 → IsN (ks.map V.int) H1 (.ref b1) → ks.length ≤ 1000 → laidBack d ns ms = ns.take d.depth.toNat ++ ks ++ ns.drop d.depth.toNat →
        EvR (tOp (rCatN K) (tOp (rCatN K) (tSl (rSlN K) (tVar 1) tNoPart (tPart (tFld K (tVar 0) "depth"))) (tVar 2)) (tSl (rSlN K) (tVar 1) (tPart (tFld K (tVar 0) "depth")) tNoPart)) [some (.ref p), some (.ref a), some (.ref b1)] H1 (IsN ((laidBack d ns ms).map V.int)) := fun {H1 b1 ks} e1 hb1 hk he => by
      have hp1 := e1 _ _ hp
      have ha1 := isN_mono _ _ _ _ e1 ha
      refine en_is (en_cat (en_cat (en_is (en_slice (en_of (ev_var rfl) ha1) eo_none (eo_some (ev_fld (ev_var rfl) hp1 D.cl D.n3 (dayF_depth d)))) (cut_to d0)) (en_of (ev_var rfl) hb1) ?_) (en_is (en_slice (en_of (ev_var rfl) ha1) (eo_some (ev_fld (ev_var rfl) hp1 D.cl D.n3 (dayF_depth d))) eo_none) (cut_from d0)) ?_) ?_
      · rw [List.length_take, List.length_map, List.length_map]
        omega
      · rw [List.length_append, List.length_take, List.length_drop, List.length_map, List.length_map]
        omega
      · rw [he, List.map_append, List.map_append, List.map_drop, List.map_take]
    refine q_when (b := d.turned) (et_B (ev_fld (ev_var rfl) hp D.cl D.n4 (dayF_turned d))) (fun z H1 e1 => ?_) (fun z H1 e1 => ?_)
    · refine s_asgR (en_rev (en_of (ev_var rfl) (isN_mono _ _ _ _ e1 hb))) fun v H2 e2 hv => ?_
      obtain ⟨b2, rfl, hv'⟩ := id hv
      refine s_retR (fin (ks := ms.reverse) (e1.trans e2) (by rw [List.map_reverse]; exact hv) (by rw [List.length_reverse]; exact hz2) (by rw [laidBack, if_pos z])) fun v H3 e3 hr => k v H3 ((e1.trans e2).trans e3) hr
    · exact s_retR (fin (ks := ms) e1 (isN_mono _ _ _ _ e1 hb) hz2 (by rw [laidBack, if_neg (by rw [z]; decide)])) fun v H3 e3 hr => k v H3 (e1.trans e3) hr
theorem day_at {H : Hp} {dd : List DayD} {dv : List V} {i : Nat} (h : DaysV CD H (dd.map some) dv) (hi : i < dd.length) : ∃ p, atI dv (i : Int) = some (.ref p) ∧ DayAt CD H p (dd.getD i dayNone) := by
  have l : dv.length = dd.length := by rw [h.1, List.length_map]
  have q := h.2 i _ (List.getElem?_eq_getElem (by omega))
  rw [List.getD_eq_getElem?_getD, List.getElem?_map, List.getElem?_eq_getElem hi] at q
  obtain ⟨p, e, hp⟩ := q
  refine ⟨p, atI_nat (by rw [List.getElem?_eq_getElem (by omega), e]), ?_⟩
  rw [List.getD_eq_getElem?_getD, List.getElem?_eq_getElem hi]
  exact hp
theorem ok_beh {fr fl : Addr} {rd ld : FuncData} (F : Fun K "behind_day" "behind_day" sBeh f fd) (B : Blt mg) (D : DyR K CD)
    (FR : Fun K "rearranged" "rearranged" sRe fr rd) (bR : Binds K rd ["day", "pile"] []) (mR : mg "rearranged" = some (.ref fr))
    (FL : Fun K "laid_back" "laid_back" sLaid fl ld) (bL : Binds K ld ["day", "pile", "heap"] []) (mL : mg "laid_back" = some (.ref fl)) : FnOk P w K mg base CX0 (j + 2) f fd ["days", "row", "pile", "heaps", "number"] (spBeh CD) := by
  have GR : FnOk P w K mg base CX0 (j + 1) fr rd ["day", "pile"] (spRe CD) := ok_re FR D
  have GL : FnOk P w K mg base CX0 (j + 1) fl ld ["day", "pile", "heap"] (spLaid CD) := ok_laid FL D
  refine F.ok scBeh (fun vs H Q E h => ?_) (fun cdv A outer s H vs Q E hr h => ?_)
  · obtain ⟨q, hh, a, dv, hv, dd, row, pile, heaps, k, rfl, _⟩ := h
    rfl
  · obtain ⟨q, hh, a, dv, hv, dd, row, pile, heaps, k, rfl, hq, hD, hrow, ha, hh_, hhd, k0, dp, pz, hz, hz2, kk⟩ := h
    obtain ⟨a, rfl, ha'⟩ := id ha
    refine ⟨_, (pss_cons (ps_set (i := 3) scBeh.nd rfl (.inl rfl) (pe_tup (StX.pa_star (pv 3) (pa_cons (pe_slice sl_tupN (pv 2) po_none (po_some (pv 4))) pa_nil))))
      (pss_cons (ps_set (i := 2) scBeh.nd rfl (.inl rfl) (pe_call GR hr (by rfl) mR FR.kp bR .nil pass0 (pa_cons (pe_ix ix_tup (pv 0) (pv 1) (fun _ _ => rfl)) (pa_cons (pe_slice sl_tupN (pv 2) (po_some (pv 4)) po_none) pa_nil))))
      (pss_cons (ps_set (i := 5) scBeh.nd rfl (.inl rfl) (pe_ix ix_tup (pv 0) (pe_op op_mod (pe_op op_sub (pe_op op_add (pv 1) pe_int) (pe_callB call_len_seq (by rfl) B.len PySem.boot_len (pa_cons (pv 3) pa_nil))) (pe_callB call_len_seq (by rfl) B.len PySem.boot_len (pa_cons (pv 0) pa_nil))) (fun _ _ => rfl)))
      (pss_one (ps_ret (pe_tup (pa_cons (pe_call GL hr (by rfl) mL FL.kp bL .nil pass0 (pa_cons (pv 5) (pa_cons (pv 2) (pa_cons (pe_ix ix_tup (pv 3) pe_int (fun _ _ => rfl)) pa_nil)))) (pa_cons (pe_slice sl_tupA (pv 3) (po_some pe_int) po_none) pa_nil)))))))), ?_⟩
    have hvl : hv.length = heaps.length := by rw [hhd.len]
    have dvl : dv.length = dd.length := by rw [hD.1, List.length_map]
    -- heaps = (*heaps, pile[:number])
    refine q_asgR (R := fun H' v => ∃ r s, v = .ref r ∧ Rd H' r (.tup (hv ++ [.ref s])) ∧ IsN ((pile.take k.toNat).map V.int) H' (.ref s)) (fun H1 e1 Q1 q1 => ?_) fun v H1 e1 ⟨hn, sn, ev, hhn, hsn⟩ => ?_
    · refine ⟨.ref hh, rfl, hh, hv, rfl, .inl (.inl (ex_rd e1 hh_)), ?_⟩
      refine (en_slice (en_of (ev_var rfl) (isN_mono _ _ _ _ e1 ha)) eo_none (eo_some (ev_var rfl))) H1 (Ex.refl H1) _ fun v H2 e2 hs2 => ?_
      obtain ⟨s2, rfl, _⟩ := id hs2
      rw [cut_to k0, ← List.map_take] at hs2
      refine ⟨?_, fun r hr_ => q1 _ _ (e2.trans (Ex.new hr_)) ⟨r, s2, rfl, .inl upd_same, isN_mono _ _ _ _ (Ex.new hr_) hs2⟩⟩
      rw [List.length_append, List.length_singleton, hvl]
      exact sz_of (by omega)
    subst ev
    have hD1 := hD.ext e1
    -- pile = rearranged(days[row], pile[number:])
    obtain ⟨pr, hpr, hdr⟩ := day_at hD1 hrow
    refine q_asgR (R := fun H' v => ∃ r, v = .ref r ∧ IsN ((rearr (dd.getD row dayNone) (pile.drop k.toNat)).map V.int) H' (.ref r)) (fun H2 e2 Q2 q2 => ?_) fun v H2 e2 ⟨an, ev, han⟩ => ?_
    · refine (ev_ixQ (eq_of (ev_var rfl) (ex_rd (e1.trans e2) hq)) (ev_var rfl) hpr) H2 (Ex.refl H2) _ fun H3 e3 => ?_
      refine (en_slice (en_of (ev_var rfl) (isN_mono _ _ _ _ ((e1.trans e2).trans e3) ha)) (eo_some (ev_var rfl)) eo_none) H3 (Ex.refl H3) _ fun v H4 e4 hs4 => ?_
      obtain ⟨s4, rfl, _⟩ := id hs4
      rw [cut_from k0, ← List.map_drop] at hs4
      obtain ⟨dxr, hpd⟩ := hdr
      refine ⟨pr, .ref s4, _, _, rfl, ⟨dxr, ((e2.trans e3).trans e4) _ _ hpd⟩, hs4, dp _ ?_, by rw [List.length_drop]; omega, fun r H5 e5 h5 => by
        obtain ⟨r, rfl, _⟩ := id h5
        exact q2 _ _ ((e3.trans e4).trans e5) ⟨r, rfl, h5⟩⟩
      rw [List.getD_eq_getElem?_getD, List.getElem?_eq_getElem hrow]
      exact List.getElem_mem hrow
    subst ev
    have e02 := e1.trans e2
    -- taken
    have dl0 : (0 : Int) < (dd.length : Int) := by omega
    have tix : takenIx dd.length row heaps.length < dd.length := by
      unfold takenIx
      have h1 := Int.emod_nonneg ((row : Int) + 1 - ((heaps.length + 1 : Nat) : Int)) (show (dd.length : Int) ≠ 0 by omega)
      have h2 := Int.emod_lt_of_pos ((row : Int) + 1 - ((heaps.length + 1 : Nat) : Int)) dl0
      omega
    have tixI : ((takenIx dd.length row heaps.length : Nat) : Int) = ((row : Int) + 1 - ((heaps.length + 1 : Nat) : Int)) % (dd.length : Int) := by
      unfold takenIx
      have h1 := Int.emod_nonneg ((row : Int) + 1 - ((heaps.length + 1 : Nat) : Int)) (show (dd.length : Int) ≠ 0 by omega)
      omega
    obtain ⟨pt, hpt, hdt⟩ := day_at (hD1.ext e2) tix
    have nl : (hv ++ [V.ref sn]).length = heaps.length + 1 := by rw [List.length_append, hvl]; rfl
    refine q_asg (v := .ref pt) (ev_ixQ (i := ((takenIx dd.length row heaps.length : Nat) : Int)) (eq_of (ev_var rfl) (ex_rd e02 hq)) (ev_is (ev_op (ev_op (ev_op (ev_var rfl) ev_c rv_I0) (ev_is (ev_lenQ (eq_of (ev_var rfl) (ex_rd e2 hhn))) (by rw [nl])) rv_I0) (ev_is (ev_lenQ (eq_of (ev_var rfl) (ex_rd e02 hq))) (by rw [dvl])) (rv_I dl0)) (by rw [tixI])) hpt) fun H3 e3 => ?_
    -- the pair
    have hs3 := isN_mono _ _ _ _ (e2.trans e3) hsn
    have hn3 := ex_rd (e2.trans e3) hhn
    have hhd3 : IsNs H3 (hv ++ [V.ref sn]) (heaps ++ [pile.take k.toNat]) := (hhd.ext ((e1.trans e2).trans e3)).app hs3
    obtain ⟨x0, hx0, hx0d⟩ := hhd3.first (by simp)
    obtain ⟨p0, rfl, _⟩ := id hx0d
    have z0 : ((heaps ++ [pile.take k.toNat]).getD 0 []).length ≤ 1000 := by
      cases heaps with
      | nil =>
        show (pile.take k.toNat).length ≤ 1000
        rw [List.length_take]
        omega
      | cons a b => exact hz a (List.mem_cons_self)
    have rz : (rearr (dd.getD row dayNone) (pile.drop k.toNat)).length ≤ 1000 := by
      unfold rearr
      split
      · rw [List.length_reverse, List.length_drop]
        omega
      · split
        · rw [List.length_append, List.length_drop, List.length_take, List.length_drop]
          omega
        · rw [List.length_drop]
          omega
    refine s_retR (R := fun H' v => ∃ t u x hv2, v = .ref t ∧ H' t = some (.tup [u, .ref x]) ∧ IsN ((behindDay dd row pile heaps k).1.map V.int) H' u ∧ Rd H' x (.tup hv2) ∧ IsNs H' hv2 (behindDay dd row pile heaps k).2) (fun H4 e4 Q4 q4 => ?_) fun v H4 e4 ⟨t, u, x, hv2, ev, h1, h2, h3, h4⟩ => ?_
    · refine ⟨.ref pt, rfl, .ref an, rfl, ?_⟩
      refine (ev_ixQ (eq_of (ev_var rfl) (ex_rd e4 hn3)) ev_c (atI_nat (j := 0) hx0)) H4 (Ex.refl H4) _ fun H5 e5 => ?_
      obtain ⟨dxt, hptd⟩ := hdt
      refine ⟨pt, .ref an, .ref p0, _, _, _, rfl, ⟨dxt, ((e3.trans e4).trans e5) _ _ hptd⟩, isN_mono _ _ _ _ ((e3.trans e4).trans e5) han, isN_mono _ _ _ _ (e4.trans e5) hx0d, dp _ ?_, rz, z0, fun r H6 e6 h6 => ?_⟩
      · rw [List.getD_eq_getElem?_getD, List.getElem?_eq_getElem tix]
        exact List.getElem_mem tix
      refine (eq_slice (eq_of (ev_var rfl) (ex_rd ((e4.trans e5).trans e6) hn3)) (eo_some ev_c) eo_none) H6 (Ex.refl H6) _ fun v H7 e7 ⟨s7, ev, hs7⟩ => ?_
      subst ev
      rw [cut_from (by decide)] at hs7
      refine ⟨by show 2 ≤ sizeLine; decide, fun t ht => q4 _ _ (((e5.trans e6).trans e7).trans (Ex.new ht)) ⟨t, _, s7, _, rfl, upd_same, isN_mono _ _ _ _ (e7.trans (Ex.new ht)) h6, ex_rd (Ex.new ht) hs7, ?_⟩⟩
      exact (hhd3.ext ((((e4.trans e5).trans e6).trans e7).trans (Ex.new ht))).tail
    · subst ev
      exact kk t u x hv2 H4 (((e1.trans e2).trans e3).trans e4) h1 h2 h3 h4
end
end PW
namespace PW
open PySem PySem.Spec PyProof.Rows L2 Evl
/-! ### kinds, checks -/
/-- a value, as the integer that it is -/
def IntV (K : PySem.W.Frag) (H : Hp) (v : V) : Option Int → Prop
  | some n => v = .int n
  | none => ∃ t b1 b2, (∀ H1, Ex H H1 → TyX K H1 v t) ∧ PySem.W.kitOne K t (.type "int") = some b1 ∧ PySem.W.kitOne K t (.type "bool") = some b2 ∧ (b1 && !b2) = false
theorem IntV.ext {K : PySem.W.Frag} {H H' : Hp} {v : V} : ∀ {o : Option Int}, IntV K H v o → Ex H H' → IntV K H' v o
  | some _, h, _ => h
  | none, ⟨t, b1, b2, ty, k⟩, e => ⟨t, b1, b2, fun H1 e1 => ty H1 (e.trans e1), k⟩
def isLet : Option (Int × Int) → Option Int → Bool
  | some (a, b), some n => decide (a ≤ n) && decide (n ≤ b)
  | _, _ => false
def spIsInt (K : PySem.W.Frag) : Sp := fun vs H Q _ => ∃ (v : V) (on : Option Int), vs = [v] ∧ IntV K H v on ∧ ∀ H', Ex H H' → Q (.bl on.isSome) H'
def spIsLet (K : PySem.W.Frag) : Sp := fun vs H Q _ => ∃ (v u : V) (on : Option Int) (o : Option (Int × Int)), vs = [v, u] ∧ IntV K H v on ∧ LetsV H o u ∧ ∀ H', Ex H H' → Q (.bl (isLet o on)) H'
abbrev sIsInt : Stmt := top 11
abbrev sIsLet : Stmt := top 35
abbrev sCheck : Stmt := top 34
theorem scIsInt : FnScope ["value"] ["value"] (defScope sIsInt) := ⟨rfl, rfl, rfl, by decide +kernel, rfl, by decide +kernel, by decide +kernel⟩
theorem scIsLet : FnScope ["number", "lets"] ["number", "lets"] (defScope sIsLet) := ⟨rfl, rfl, rfl, by decide +kernel, rfl, by decide +kernel, by decide +kernel⟩
theorem scCheck : FnScope ["rule"] ["rule"] (defScope sCheck) := ⟨rfl, rfl, rfl, by decide +kernel, rfl, by decide +kernel, by decide +kernel⟩
/-- what an error of one attribute is made of -/
def spOne (g : Str) (C : Addr) : Sp := fun vs H Q _ => ∃ (a : Addr) (v : V), vs = [.ref a, v] ∧ H a = some (exo a C none) ∧
  ∀ d, H d = none → d ≠ a → Q .non (upd (upd H d (exd d [(g, v)])) a (exo a C (some d)))
/-- a class of errors with given -/
structure Giv (K : PySem.W.Frag) (mg : Str → Option Value) (x : Str) (C f : Addr) (d : FuncData) : Prop where
  b : ∀ (s : Shared) (us : List Value), us.length = (["self", "given"] : List Str).length → BindsTo s d ⟨us, []⟩ ((["self", "given"] : List Str).zip us)
  T : XC K C
  no : PySem.W.findIn K (.ref C) "given" = some none
  i : PySem.W.findIn K (.ref C) "__init__" = some (some (.ref f))
  t : PySem.W.typeIn K (.ref f) = some (.type "function")
  m : mg x = some (.ref C)
  sub : PySem.W.subIn K (.ref C) (.type "BaseException") = some true
  ty : PySem.W.typeIn K (.ref C) = some (.type "type")
theorem raise_one {g : Str} {CR : Addr} {ta : TA} {σ : L2.St} {H : Hp} {v : V} {H0 : Hp} {X : Cx} {E : XK} (hX : X.H_0 = H0) (e0 : Ex H0 H) (ha : EvA ta σ H [v]) (r : Raises X (.ref CR))
    (k : ∀ d H', H d = none → Ex H H' → H' d = some (exd d [(g, v)]) → E (.ref CR) (some d) H') :
    tMkX CR (spOne g CR) ta σ H fun x H1 => ∃ a C d, x = .ref a ∧ H1 a = some (exo a C d) ∧ Fr0 X.H_0 a ∧ Raises X (.ref C) ∧ E (.ref C) d (delH H1 a) := by
  refine ha H (Ex.refl H) _ fun H1 e1 => ⟨by show 1 ≤ 1000; decide, fun a na => ⟨a, v, rfl, upd_same, fun d nd ne => ⟨rfl, a, CR, some d, rfl, upd_same, ?_, r, ?_⟩⟩⟩
  · rw [hX]
    exact fr0_none (fresh_back (e0.trans e1) na)
  · have nd' : H1 d = none := by rw [upd_ne ne] at nd; exact nd
    refine k d _ (fresh_back e1 nd') (fun b o e => ?_) ?_
    · have q := e1 _ _ e
      have ba : b ≠ a := ne_of_none q na
      have bd : b ≠ d := ne_of_none q nd'
      rw [delH_ne ba, upd_ne ba, upd_ne bd, upd_ne ba]
      exact q
    · rw [delH_ne ne, upd_ne ne, upd_same]
abbrev sGNotARule : Stmt := inClass (top 5) 0
theorem scGNotARule : FnScope ["self", "given"] ["self", "given"] (defScope sGNotARule) := ⟨rfl, rfl, rfl, by decide +kernel, rfl, by decide +kernel, by decide +kernel⟩
theorem ok_GNotARule {P : Program} {w : World} {K : PySem.W.Frag} {mg : Str → Option Value} {base : Heap} {f C : Addr} {fd : FuncData} {j : Nat} {x : Str} (F : Fun K "__init__" "NotARule.__init__" sGNotARule f fd) (D : Giv K mg x C f fd) :
    FnOk P w K mg base CX0 (j + 1) f fd ["self", "given"] (spOne "given" C) := by
  refine F.ok scGNotARule (fun vs H Q E h => ?_) (fun cdv A outer s H vs Q E hr h => ?_)
  · obtain ⟨a, v, rfl, _⟩ := h
    rfl
  · obtain ⟨a, v, rfl, ha, k⟩ := h
    exact ⟨_, pss_one (ps_put (pv 0) (pv 1)), v, rfl, .ref a, rfl, a, C, rfl, D.T, taker_of D.no, .inl ⟨ha, fun d nd ne => k d nd ne⟩⟩
abbrev sGInvalidNumber : Stmt := inClass (top 4) 0
theorem scGInvalidNumber : FnScope ["self", "given"] ["self", "given"] (defScope sGInvalidNumber) := ⟨rfl, rfl, rfl, by decide +kernel, rfl, by decide +kernel, by decide +kernel⟩
theorem ok_GInvalidNumber {P : Program} {w : World} {K : PySem.W.Frag} {mg : Str → Option Value} {base : Heap} {f C : Addr} {fd : FuncData} {j : Nat} {x : Str} (F : Fun K "__init__" "InvalidNumber.__init__" sGInvalidNumber f fd) (D : Giv K mg x C f fd) :
    FnOk P w K mg base CX0 (j + 1) f fd ["self", "given"] (spOne "given" C) := by
  refine F.ok scGInvalidNumber (fun vs H Q E h => ?_) (fun cdv A outer s H vs Q E hr h => ?_)
  · obtain ⟨a, v, rfl, _⟩ := h
    rfl
  · obtain ⟨a, v, rfl, ha, k⟩ := h
    exact ⟨_, pss_one (ps_put (pv 0) (pv 1)), v, rfl, .ref a, rfl, a, C, rfl, D.T, taker_of D.no, .inl ⟨ha, fun d nd ne => k d nd ne⟩⟩
abbrev sGNotLet : Stmt := inClass (top 9) 0
theorem scGNotLet : FnScope ["self", "given"] ["self", "given"] (defScope sGNotLet) := ⟨rfl, rfl, rfl, by decide +kernel, rfl, by decide +kernel, by decide +kernel⟩
theorem ok_GNotLet {P : Program} {w : World} {K : PySem.W.Frag} {mg : Str → Option Value} {base : Heap} {f C : Addr} {fd : FuncData} {j : Nat} {x : Str} (F : Fun K "__init__" "NotLet.__init__" sGNotLet f fd) (D : Giv K mg x C f fd) :
    FnOk P w K mg base CX0 (j + 1) f fd ["self", "given"] (spOne "given" C) := by
  refine F.ok scGNotLet (fun vs H Q E h => ?_) (fun cdv A outer s H vs Q E hr h => ?_)
  · obtain ⟨a, v, rfl, _⟩ := h
    rfl
  · obtain ⟨a, v, rfl, ha, k⟩ := h
    exact ⟨_, pss_one (ps_put (pv 0) (pv 1)), v, rfl, .ref a, rfl, a, C, rfl, D.T, taker_of D.no, .inl ⟨ha, fun d nd ne => k d nd ne⟩⟩
def spCheck (K : PySem.W.Frag) (C CN : Addr) : Sp := fun vs H Q E => ∃ v : V, vs = [v] ∧ (((∀ H1, Ex H H1 → TyX K H1 v (.ref C)) ∧ ∀ H', Ex H H' → Q .non H') ∨
  ((∃ t, (∀ H1, Ex H H1 → TyX K H1 v t) ∧ PySem.W.kitOne K t (.ref C) = some false) ∧ ∀ d H', H d = none → Ex H H' → H' d = some (exd d [("given", v)]) → E (.ref CN) (some d) H'))
section
variable {P : Program} {w : World} {K : PySem.W.Frag} {mg : Str → Option Value} {base : Heap} {C CN f fn fN : Addr} {fd nd dN : FuncData} {j : Nat}
theorem ok_isInt (kib : PySem.W.kitOne K (.type "int") (.type "bool") = some false) (F : Fun K "is_integer" "is_integer" sIsInt f fd) (B : Blt mg) : FnOk P w K mg base CX0 (j + 1) f fd ["value"] (spIsInt K) := by
  refine F.ok scIsInt (fun vs H Q E h => ?_) (fun cdv A outer s H vs Q E hr h => ?_)
  · obtain ⟨v, on, rfl, _⟩ := h
    rfl
  · obtain ⟨v, on, rfl, hv, k⟩ := h
    refine ⟨_, (pss_one (ps_ret (pe_and (pe_callB call_isi (by rfl) B.isi bIsi (pa_cons (pv 0) (pa_cons (pe_bltn (v := .ty "int") (by rfl) B.int bInt rfl) pa_nil))) (pe_one (pe_not (pe_callB call_isi (by rfl) B.isi bIsi (pa_cons (pv 0) (pa_cons (pe_bltn (v := .ty "bool") (by rfl) B.bool bBool rfl) pa_nil)))))))), ?_⟩
    cases on with
    | some n =>
      obtain rfl : v = .int n := hv
      exact s_ret (v := .bl true) (ev_is (ev_andV (a := true) (b := true) (ev_isi (ev_var rfl) ev_c (.ty _) (fun _ _ => .base (.int n)) kit_int) (fun _ => ev_is (ev_notV (a := false) (ev_isi (ev_var rfl) ev_c (.ty _) (fun _ _ => .base (.int n)) kib)) rfl)) rfl) fun H1 e1 => k H1 e1
    | none =>
      obtain ⟨t, b1, b2, ty, k1, k2, hb⟩ := hv
      refine s_ret (v := .bl false) (ev_is (ev_andV (a := b1) (b := !b2) (ev_isi (ev_var rfl) ev_c (.ty _) ty k1) (fun _ => ev_notV (a := b2) (ev_isi (ev_var rfl) ev_c (.ty _) ty k2))) (by rw [hb])) fun H1 e1 => k H1 e1
theorem ok_isLet (kib : PySem.W.kitOne K (.type "int") (.type "bool") = some false) (F : Fun K "is_let" "is_let" sIsLet f fd) (B : Blt mg) (FN : Fun K "is_integer" "is_integer" sIsInt fn nd) (bN : Binds K nd ["value"] []) (mN : mg "is_integer" = some (.ref fn)) :
    FnOk P w K mg base CX0 (j + 2) f fd ["number", "lets"] (spIsLet K) := by
  have GN : FnOk P w K mg base CX0 (j + 1) fn nd ["value"] (spIsInt K) := ok_isInt kib FN B
  refine F.ok scIsLet (fun vs H Q E h => ?_) (fun cdv A outer s H vs Q E hr h => ?_)
  · obtain ⟨v, u, on, o, rfl, _⟩ := h
    rfl
  · obtain ⟨v, u, on, o, rfl, hv, hu, k⟩ := h
    refine ⟨_, (pss_one (ps_ret (pe_and (pe_cmpR op_notN (pv 1) pe_non (nomark _)) (pe_and (pe_call GN hr (by rfl) mN FN.kp bN .nil pass0 (pa_cons (pv 0) pa_nil)) (pe_one (pe_chain op_le op_le (pe_ix ix_tup (pv 1) pe_int (fun _ _ => rfl)) (pv 0) (pe_ix ix_tup (pv 1) pe_int (fun _ _ => rfl)))))))), ?_⟩
    cases o with
    | none =>
      obtain rfl : u = .non := hu
      exact s_ret (v := .bl false) (ev_is (ev_andV (a := false) (b := false) (ev_is (ev_notN (x := .non) (ev_var rfl)) (by simp)) (fun z => nomatch z)) rfl) fun H1 e1 => k H1 e1
    | some ab =>
      obtain ⟨a, b⟩ := ab
      obtain ⟨p, rfl, hp⟩ := hu
      have int : ∀ {H9 : Hp} {E9 : XK}, Ex H H9 → Ev (tCall (spIsInt K) [] E9 (tCons (tVar 0) tNil)) [some v, some (.ref p)] H9 (.bl on.isSome) := fun e9 => ev_call (ea_cons (ev_var rfl) ea_nil) fun H1 e1 Q1 q1 _ => ⟨v, on, rfl, hv.ext (e9.trans e1), fun H2 e2 => q1 H2 e2⟩
      refine s_ret (v := .bl (isLet (some (a, b)) on)) (ev_is (ev_andV (a := true) (b := isLet (some (a, b)) on) (ev_is (ev_notN (x := .ref p) (ev_var rfl)) (by simp)) (fun _ => ev_is (ev_andV (a := on.isSome) (b := isLet (some (a, b)) on) (int (Ex.refl H)) (fun z => ?_)) ?_)) rfl) fun H1 e1 => k H1 e1
      · obtain ⟨n, rfl⟩ := Option.isSome_iff_exists.mp z
        obtain rfl : v = .int n := hv
        exact ev_chain (ev_ixQ (eq_of (ev_var rfl) hp) ev_c (atI_nat (j := 0) rfl)) (ev_var rfl) (ev_ixQ (eq_of (ev_var rfl) hp) ev_c (atI_nat (j := 1) rfl)) rv_I0 (fun _ => rv_I0)
      · cases on <;> simp [isLet]
theorem ok_check (F : Fun K "check_rule" "check_rule" sCheck f fd) (B : Blt mg) (mC : mg "Rule" = some (.ref C)) (DN : Giv K mg "NotARule" CN fN dN) (FG : Fun K "__init__" "NotARule.__init__" sGNotARule fN dN) :
    FnOk P w K mg base (L2.CX P w) (j + 3) f fd ["rule"] (spCheck K C CN) := by
  have GN : FnOk P w K mg base CX0 1 fN dN ["self", "given"] (spOne "given" CN) := ok_GNotARule (j := 0) FG DN
  refine F.okX scCheck (fun vs H Q E h => ?_) (fun cdv A outer s H vs Q E hr h => ?_)
  · obtain ⟨v, rfl, _⟩ := h
    rfl
  · obtain ⟨v, rfl, h⟩ := h
    have hr2 := hr.mono (j := 2) (by omega)
    refine ⟨_, (pss_one (ps_if (pt_not (pt_val (pe_callB call_isi (by rfl) B.isi bIsi (pa_cons (pv 0) (pa_cons (pe_glob (v := .ref C) (by rfl) mC rfl) pa_nil))))) (pss_one (ps_raise rfl (takes_of rfl rfl rfl rfl) (pmk_exo rfl (pe_mkX DN.T DN.i DN.t GN hr2 (by rfl) DN.m (pa_cons (pv 0) pa_nil) DN.b)))) pss_nil)), ?_⟩
    rcases h with ⟨ty, k⟩ | ⟨⟨t, ty, kt⟩, k⟩
    · exact s_when (b := false) (et_is (et_not (et_B (ev_isi (ev_var rfl) ev_c (.own _) ty kit_self))) rfl) (fun z => nomatch z) fun _ H1 e1 => k H1 e1
    · refine s_when (b := true) (et_is (et_not (et_B (ev_isi (ev_var rfl) ev_c (.own _) ty kt))) rfl) (fun _ H1 e1 => ?_) (fun z => nomatch z)
      exact raise_one (H0 := H) rfl e1 (ea_cons (ev_var rfl) ea_nil) (raises_own DN.sub DN.ty) fun d H' nd e' hd => k d H' (fresh_back e1 nd) (e1.trans e') hd
end
/-! ### piles: what lies in the heap -/
structure PSt where
  pile : List Int
  heaps : List (List Int)
  uses : List Int
def stD (s : PSt) : PyData := .tuple [intsD s.pile, heapsD s.heaps, intsD s.uses]
def rangeI (n : Int) : List Int := (List.range n.toNat).map fun (j : Nat) => (j : Int)
def st0 (a b : Int) : PSt := ⟨rangeI a, List.replicate b.toNat [], List.replicate a.toNat 0⟩
def stNone : PSt := ⟨[], [], []⟩
def curSt (ss : List PSt) : PSt := ss.getD (ss.length - 1) stNone
def rowIx (ss : List PSt) (dd : List DayD) : Nat := (ss.length - 1) % dd.length
def letsNow (ss : List PSt) (dd : List DayD) : Option (Int × Int) := letsOf (dd.getD (rowIx ss dd) dayNone) ((curSt ss).pile.length : Int)
def usesNext (us : List Int) (used : List Int) : List Int := (List.range us.length).map fun (i : Nat) => us.getD i 0 + (if inV (.int (i : Int)) (used.map V.int) then 1 else 0)
def nextSt (dd : List DayD) (ss : List PSt) (k : Int) : PSt :=
  ⟨(behindDay dd (rowIx ss dd) (curSt ss).pile (curSt ss).heaps k).1, (behindDay dd (rowIx ss dd) (curSt ss).pile (curSt ss).heaps k).2, usesNext (curSt ss).uses ((curSt ss).pile.take k.toNat)⟩
theorem ints_keep {H H' : Hp} {v : V} {ns : List Int} (k : ∀ p xs, Rd H p (.tup xs) → Rd H' p (.tup xs)) (h : Dat H v (intsD ns)) : Dat H' v (intsD ns) := by
  obtain ⟨p, rfl, hp⟩ := ints_dat h
  exact dat_ints (k _ _ hp)
theorem listInts_keep {H H' : Hp} (k : ∀ p xs, Rd H p (.tup xs) → Rd H' p (.tup xs)) : ∀ {hs : List (List Int)} {vs : List V}, Dats H vs (hs.map intsD) → Dats H' vs (hs.map intsD)
  | [], vs, h => by
    cases h
    exact .nil
  | x :: hs, vs, h => by
    cases h with
    | cons a r => exact .cons (ints_keep k a) (listInts_keep k r)
theorem heaps_keep {H H' : Hp} {v : V} {hs : List (List Int)} (k : ∀ p xs, Rd H p (.tup xs) → Rd H' p (.tup xs)) (h : Dat H v (heapsD hs)) : Dat H' v (heapsD hs) := by
  obtain ⟨p, xs, rfl, hp, hx⟩ := tup_dat h
  exact .tup (k _ _ hp) (listInts_keep k hx)
theorem st_keep {H H' : Hp} {v : V} {s : PSt} (k : ∀ p xs, Rd H p (.tup xs) → Rd H' p (.tup xs)) (h : Dat H v (stD s)) : Dat H' v (stD s) := by
  obtain ⟨p, xs, rfl, hp, hx⟩ := tup_dat h
  cases hx with
  | cons a r =>
    cases r with
    | cons b r =>
      cases r with
      | cons c r =>
        cases r
        exact .tup (k _ _ hp) (.cons (ints_keep k a) (.cons (heaps_keep k b) (.cons (ints_keep k c) .nil)))
theorem sts_keep {H H' : Hp} (k : ∀ p xs, Rd H p (.tup xs) → Rd H' p (.tup xs)) : ∀ {ss : List PSt} {vs : List V}, Dats H vs (ss.map stD) → Dats H' vs (ss.map stD)
  | [], vs, h => by
    cases h
    exact .nil
  | x :: hs, vs, h => by
    cases h with
    | cons a r => exact .cons (st_keep k a) (sts_keep k r)
/-- a tuple stays where something else is changed -/
theorem rd_far {H H' : Hp} {l : Addr} {o : HO} (hl : H l = some o) (ne : ∀ xs, o ≠ .tup xs) (nf : ∀ ob xs, o ≠ .frz ob (.tup xs)) (k : ∀ b u, b ≠ l → H b = some u → H' b = some u) (p : Addr) (xs : List V) (h : Rd H p (.tup xs)) : Rd H' p (.tup xs) := by
  rcases h with h | ⟨ob, h⟩
  · refine .inl (k p _ (fun z => ?_) h)
    rw [z, hl] at h
    exact ne _ (Option.some.inj h)
  · refine .inr ⟨ob, k p _ (fun z => ?_) h⟩
    rw [z, hl] at h
    exact nf _ _ (Option.some.inj h)
theorem rd_hide {H : Hp} {l : Addr} {cs : List V} (hl : H l = some (.lst cs)) (p : Addr) (xs : List V) (h : Rd H p (.tup xs)) : Rd (hide l H) p (.tup xs) :=
  rd_far hl (fun _ z => by cases z) (fun _ _ z => by cases z) (fun b u n e => (hide_ne n).trans e) p xs h
/-- a rule, all that it holds -/
structure RuleK (H : Hp) (C CD r p q dx : Addr) (rows : List Str) (a b : Int) (ds : List V) (dd : List DayD) : Prop where
  ins : H r = some (.ins C dx (ruleF p q a b))
  rw_ : H p = some (.tup (rows.map V.str))
  dy : H q = some (.tup ds)
  dv : DaysV CD H (dd.map some) ds
  G : Good rows a b
  dm : (rows.drop 1).map dayOf = dd.map some
theorem RuleK.ext {H H' : Hp} {C CD r p q dx : Addr} {rows : List Str} {a b : Int} {ds : List V} {dd : List DayD} (h : RuleK H C CD r p q dx rows a b ds dd) (e : Ex H H') : RuleK H' C CD r p q dx rows a b ds dd :=
  ⟨e _ _ h.ins, e _ _ h.rw_, e _ _ h.dy, h.dv.ext e, h.G, h.dm⟩
theorem RuleK.far {H H' : Hp} {C CD r p q dx l : Addr} {rows : List Str} {a b : Int} {ds : List V} {dd : List DayD} {o : HO} (h : RuleK H C CD r p q dx rows a b ds dd) (hl : H l = some o) (ni : ∀ C dx g fs, o ≠ .ins C dx (g :: fs)) (nt : ∀ xs, o ≠ .tup xs)
    (k : ∀ b u, b ≠ l → H b = some u → H' b = some u) : RuleK H' C CD r p q dx rows a b ds dd := by
  have far : ∀ {c u}, H c = some u → u ≠ o → H' c = some u := fun {c u} hc hn => k c u (fun z => hn (by rw [z, hl] at hc; exact (Option.some.inj hc).symm)) hc
  exact ⟨far h.ins fun z => ni _ _ _ _ z.symm, far h.rw_ fun z => nt _ z.symm, far h.dy fun z => nt _ z.symm, h.dv.keep fun p dx d hp => far hp fun z => ni _ _ _ _ z.symm, h.G, h.dm⟩
/-- a state of a pile, its tuples without a dict -/
def StN (H : Hp) (v : V) (s : PSt) : Prop := ∃ (t w : Addr) (u z : V) (hv : List V), v = .ref t ∧ Rd H t (.tup [u, .ref w, z]) ∧ IsN (s.pile.map V.int) H u ∧ Rd H w (.tup hv) ∧ IsNs H hv s.heaps ∧ Dat H z (intsD s.uses)
inductive StNs (H : Hp) : List V → List PSt → Prop
  | nil : StNs H [] []
  | cons {v : V} {vs : List V} {s : PSt} {ss : List PSt} : StN H v s → StNs H vs ss → StNs H (v :: vs) (s :: ss)
theorem StN.dat {H : Hp} {v : V} {s : PSt} (h : StN H v s) : Dat H v (stD s) := by
  obtain ⟨t, w, u, z, hv, rfl, ht, hu, hw, hh, hz⟩ := h
  exact .tup ht (.cons (isN_dat hu) (.cons (.tup hw hh.dats) (.cons hz .nil)))
theorem StN.ext {H H' : Hp} (e : Ex H H') {v : V} {s : PSt} (h : StN H v s) : StN H' v s := by
  obtain ⟨t, w, u, z, hv, rfl, ht, hu, hw, hh, hz⟩ := h
  exact ⟨t, w, u, z, hv, rfl, ex_rd e ht, isN_mono _ _ _ _ e hu, ex_rd e hw, hh.ext e, Dat.mono e hz⟩
theorem StNs.dats {H : Hp} : ∀ {vs : List V} {ss : List PSt}, StNs H vs ss → Dats H vs (ss.map stD)
  | _, _, .nil => .nil
  | _, _, .cons a r => .cons a.dat r.dats
theorem StNs.ext {H H' : Hp} (e : Ex H H') : ∀ {vs : List V} {ss : List PSt}, StNs H vs ss → StNs H' vs ss
  | _, _, .nil => .nil
  | _, _, .cons a r => .cons (a.ext e) (r.ext e)
theorem StNs.app {H : Hp} {v : V} {s : PSt} (h : StN H v s) : ∀ {vs : List V} {ss : List PSt}, StNs H vs ss → StNs H (vs ++ [v]) (ss ++ [s])
  | _, _, .nil => .cons h .nil
  | _, _, .cons a r => .cons a (r.app h)
theorem StNs.get {H : Hp} : ∀ {vs : List V} {ss : List PSt} {i : Nat} {s : PSt}, StNs H vs ss → ss[i]? = some s → ∃ v, vs[i]? = some v ∧ StN H v s
  | _, _, _, _, .nil, h => by simp at h
  | _, _, 0, _, .cons a _, h => by cases h; exact ⟨_, rfl, a⟩
  | _, _, i + 1, _, .cons _ r, h => r.get (i := i) h
theorem isN_hide {H : Hp} {l : Addr} {cs xs : List V} {v : V} (hl : H l = some (.lst cs)) (h : IsN xs H v) : IsN xs (hide l H) v := by
  obtain ⟨p, rfl, r, t⟩ := h
  refine ⟨p, rfl, rd_hide hl _ _ r, fun n => ?_⟩
  obtain ⟨o, a, b⟩ := t n
  refine ⟨o, ?_, b⟩
  rw [hide_ne (fun z => by rw [z, hl] at a; cases a)]
  exact a
theorem isNs_hide {H : Hp} {l : Addr} {cs : List V} (hl : H l = some (.lst cs)) : ∀ {vs : List V} {ns : List (List Int)}, IsNs H vs ns → IsNs (hide l H) vs ns
  | _, _, .nil => .nil
  | _, _, .cons a r => .cons (isN_hide hl a) (isNs_hide hl r)
theorem stN_hide {H : Hp} {l : Addr} {cs : List V} {v : V} {s : PSt} (hl : H l = some (.lst cs)) (h : StN H v s) : StN (hide l H) v s := by
  obtain ⟨t, w, u, z, hv, rfl, ht, hu, hw, hh, hz⟩ := h
  exact ⟨t, w, u, z, hv, rfl, rd_hide hl _ _ ht, isN_hide hl hu, rd_hide hl _ _ hw, isNs_hide hl hh, ints_keep (rd_hide hl) hz⟩
structure PileK (H : Hp) (CP x r l dx : Addr) (cs : List V) (ss : List PSt) : Prop where
  ins : H x = some (.ins CP dx [("_rule", .ref r), ("_course", .ref l)])
  crs : H l = some (.lst cs)
  nst : StNs (hide l H) cs ss
theorem PileK.dat {H : Hp} {CP x r l dx : Addr} {cs : List V} {ss : List PSt} (h : PileK H CP x r l dx cs ss) : Dats (hide l H) cs (ss.map stD) := h.nst.dats
theorem PileK.ext {H H' : Hp} {CP x r l dx : Addr} {cs : List V} {ss : List PSt} (h : PileK H CP x r l dx cs ss) (e : Ex H H') : PileK H' CP x r l dx cs ss := ⟨e _ _ h.ins, e _ _ h.crs, h.nst.ext (Ex.hide e)⟩
theorem PileK.len {H : Hp} {CP x r l dx : Addr} {cs : List V} {ss : List PSt} (h : PileK H CP x r l dx cs ss) : cs.length = ss.length := by rw [Dats.len h.dat, List.length_map]
/-- the state that stands -/
theorem PileK.cur {H : Hp} {CP x r l dx : Addr} {cs : List V} {ss : List PSt} (h : PileK H CP x r l dx cs ss) (hn : 0 < ss.length) : ∃ t u v w, atI cs (-1) = some (.ref t) ∧ Rd H t (.tup [u, v, w]) ∧ Dat H u (intsD (curSt ss).pile) ∧ Dat H v (heapsD (curSt ss).heaps) ∧ Dat H w (intsD (curSt ss).uses) := by
  have hl := h.len
  obtain ⟨c, hc, hcd⟩ := dats_get (i := ss.length - 1) (d := stD (curSt ss)) (Dats.mono hide_ex h.dat) (by
    rw [List.getElem?_map, List.getElem?_eq_getElem (by omega), curSt, List.getD_eq_getElem?_getD, List.getElem?_eq_getElem (by omega)]
    rfl)
  obtain ⟨t, xs, rfl, ht, hx⟩ := tup_dat hcd
  cases hx with
  | cons a rr =>
    cases rr with
    | cons b rr =>
      cases rr with
      | cons c rr =>
        cases rr
        refine ⟨t, _, _, _, ?_, ht, a, b, c⟩
        have e : cs = cs.take (ss.length - 1) ++ [.ref t] := by
          have h1 : cs.take (ss.length - 1 + 1) = cs.take (ss.length - 1) ++ [.ref t] := by
            rw [List.take_add_one, hc]
            rfl
          rw [← h1, List.take_of_length_le (by omega)]
        rw [e]
        exact atI_last _ _
/-- the state that stands, its tuples -/
theorem PileK.curN {H : Hp} {CP x r l dx : Addr} {cs : List V} {ss : List PSt} (h : PileK H CP x r l dx cs ss) (hn : 0 < ss.length) : ∃ t w u z hv, atI cs (-1) = some (.ref t) ∧ Rd H t (.tup [u, .ref w, z]) ∧ IsN ((curSt ss).pile.map V.int) H u ∧ Rd H w (.tup hv) ∧ IsNs H hv (curSt ss).heaps ∧ Dat H z (intsD (curSt ss).uses) := by
  obtain ⟨t0, u0, v0, w0, hat, _⟩ := h.cur hn
  obtain ⟨c, hc, hcd⟩ := (h.nst.ext hide_ex).get (i := ss.length - 1) (s := curSt ss) (by
    rw [curSt, List.getD_eq_getElem?_getD, List.getElem?_eq_getElem (by omega)]
    rfl)
  obtain ⟨t, w, u, z, hv, rfl, ht, hu, hw, hh, hz⟩ := hcd
  have hl := h.len
  have e : cs = cs.take (ss.length - 1) ++ [.ref t] := by
    have h1 : cs.take (ss.length - 1 + 1) = cs.take (ss.length - 1) ++ [.ref t] := by
      rw [List.take_add_one, hc]
      rfl
    rw [← h1, List.take_of_length_le (by omega)]
  refine ⟨t, w, u, z, hv, ?_, ht, hu, hw, hh, hz⟩
  rw [e]
  exact atI_last _ _
theorem rgV_ints (n : Int) : rgV 0 n = (rangeI n).map V.int := by
  unfold rgV rangeI
  rw [List.map_map, Int.sub_zero]
  refine List.map_congr_left fun j _ => ?_
  show V.int (0 + (j : Int)) = V.int (j : Int)
  rw [Int.zero_add]
theorem flat_one {α : Type} (n : Nat) (x : α) : (List.replicate n [x]).flatten = List.replicate n x := by
  induction n with
  | zero => rfl
  | succ n ih => rw [List.replicate_succ, List.flatten_cons, ih, List.replicate_succ]; rfl
theorem dats_rep {H : Hp} {x : V} {d : PyData} (h : Dat H x d) : ∀ n, Dats H (List.replicate n x) (List.replicate n d)
  | 0 => .nil
  | n + 1 => .cons h (dats_rep h n)
theorem first_bounds {s : Str} {a b : Int} (h : firstOf s = some (a, b)) : 2 ≤ a ∧ a ≤ 10 ∧ 0 ≤ b ∧ b ≤ 2 := by
  unfold firstOf at h
  split at h
  · cases h
  · split at h
    · rename_i p q h1 h2
      obtain ⟨rfl, rfl⟩ := Prod.mk.inj (Option.some.inj h)
      have := readNum_le h1
      have := readNum_le h2
      omega
    · cases h
end PW
namespace PW
open PySem PySem.Spec PyProof.Rows L2 Evl
/-! ### the class Pile -/
abbrev sPInit : Stmt := inClass (top 38) 0
theorem scPInit : FnScope ["self", "rule"] ["self", "rule"] (defScope sPInit) := ⟨rfl, rfl, rfl, by decide +kernel, rfl, by decide +kernel, by decide +kernel⟩
abbrev sDayP : Stmt := inClass (top 38) 1
theorem scDayP : FnScope ["self", "number", "pile", "heaps", "counts", "used", "days", "row", "plate"] ["self", "number"] (defScope sDayP) := ⟨rfl, rfl, rfl, by decide +kernel, rfl, by decide +kernel, by decide +kernel⟩
abbrev sUndo : Stmt := inClass (top 38) 2
theorem scUndo : FnScope ["self"] ["self"] (defScope sUndo) := ⟨rfl, rfl, rfl, by decide +kernel, rfl, by decide +kernel, by decide +kernel⟩
abbrev sPRu : Stmt := inClass (top 38) 3
theorem scPRu : FnScope ["self"] ["self"] (defScope sPRu) := ⟨rfl, rfl, rfl, by decide +kernel, rfl, by decide +kernel, by decide +kernel⟩
abbrev sPRow : Stmt := inClass (top 38) 4
theorem scPRow : FnScope ["self", "row"] ["self"] (defScope sPRow) := ⟨rfl, rfl, rfl, by decide +kernel, rfl, by decide +kernel, by decide +kernel⟩
abbrev sPLets : Stmt := inClass (top 38) 5
theorem scPLets : FnScope ["self", "days", "row"] ["self"] (defScope sPLets) := ⟨rfl, rfl, rfl, by decide +kernel, rfl, by decide +kernel, by decide +kernel⟩
abbrev sPSt : Stmt := inClass (top 38) 6
theorem scPSt : FnScope ["self"] ["self"] (defScope sPSt) := ⟨rfl, rfl, rfl, by decide +kernel, rfl, by decide +kernel, by decide +kernel⟩
abbrev sPHe : Stmt := inClass (top 38) 7
theorem scPHe : FnScope ["self"] ["self"] (defScope sPHe) := ⟨rfl, rfl, rfl, by decide +kernel, rfl, by decide +kernel, by decide +kernel⟩
abbrev sPUs : Stmt := inClass (top 38) 8
theorem scPUs : FnScope ["self"] ["self"] (defScope sPUs) := ⟨rfl, rfl, rfl, by decide +kernel, rfl, by decide +kernel, by decide +kernel⟩
abbrev sPCh : Stmt := inClass (top 38) 9
theorem scPCh : FnScope ["self"] ["self"] (defScope sPCh) := ⟨rfl, rfl, rfl, by decide +kernel, rfl, by decide +kernel, by decide +kernel⟩
structure PlC (K : PySem.W.Frag) (CP : Addr) : Prop where
  cl : Cls K CP
  n0 : NoAttr K CP "_rule"
  n1 : NoAttr K CP "_course"
/-- the properties of Rule that piles read -/
structure RuP (K : PySem.W.Frag) (C gr gp ga : Addr) (dr dp da : FuncData) : Prop where
  Fr : Fun K "rows" "Rule.rows" sRows gr dr
  br : Binds K dr ["self"] []
  pr : ∃ p, PropOf K C "rows" p gr
  Fp : Fun K "plates" "Rule.plates" sPlates gp dp
  bp : Binds K dp ["self"] []
  pp : ∃ p, PropOf K C "plates" p gp
  Fa : Fun K "away" "Rule.away" sAway ga da
  ba : Binds K da ["self"] []
  pa : ∃ p, PropOf K C "away" p ga
def pileF (r l : Addr) : List (Str × V) := [("_rule", .ref r), ("_course", .ref l)]
theorem pileF_rule (r l : Addr) : (pileF r l).lookup ("_rule" : Str) = some (.ref r) := rfl
theorem pileF_course (r l : Addr) : (pileF r l).lookup ("_course" : Str) = some (.ref l) := by
  have h1 : (("_course" : Str) == "_rule") = false := by decide +kernel
  simp [pileF, List.lookup, h1]
def spPInit (K : PySem.W.Frag) (C CD CN CP : Addr) : Sp := fun vs H Q E => ∃ (x dx : Addr) (v : V), vs = [.ref x, v] ∧ H x = some (.ins CP dx []) ∧
  ((∃ (r p q dxr : Addr) (rows : List Str) (a b : Int) (ds : List V) (dd : List DayD), v = .ref r ∧ RuleK H C CD r p q dxr rows a b ds dd ∧
    ∀ l cs H', H l = none → (∀ c o, c ≠ x → H c = some o → H' c = some o) → PileK H' CP x r l dx cs [st0 a b] → Q .non H') ∨
   ((∃ t, (∀ H1, Ex H H1 → TyX K H1 v t) ∧ PySem.W.kitOne K t (.ref C) = some false) ∧ ∀ d H', H d = none → Ex H H' → H' d = some (exd d [("given", v)]) → E (.ref CN) (some d) H'))
theorem isNs_rep {H : Hp} {v : V} {n : List Int} (h : IsN (n.map V.int) H v) : ∀ k, IsNs H (List.replicate k v) (List.replicate k n)
  | 0 => .nil
  | k + 1 => .cons h (isNs_rep h k)
theorem isN_far {H H' : Hp} {l : Addr} {o : HO} {xs : List V} {v : V} (hl : H l = some o) (ne : ∀ xs, o ≠ .tup xs) (nf : ∀ ob xs, o ≠ .frz ob (.tup xs)) (k : ∀ b u, b ≠ l → H b = some u → H' b = some u) (h : IsN xs H v) : IsN xs H' v := by
  obtain ⟨p, rfl, r, t⟩ := h
  refine ⟨p, rfl, rd_far hl ne nf k _ _ r, fun n => ?_⟩
  obtain ⟨ob, a, b⟩ := t n
  exact ⟨ob, k _ _ (fun z => nf ob xs (by rw [z, hl] at a; exact Option.some.inj a)) a, b⟩
theorem isNs_far {H H' : Hp} {l : Addr} {o : HO} (hl : H l = some o) (ne : ∀ xs, o ≠ .tup xs) (nf : ∀ ob xs, o ≠ .frz ob (.tup xs)) (k : ∀ b u, b ≠ l → H b = some u → H' b = some u) : ∀ {vs : List V} {ns : List (List Int)}, IsNs H vs ns → IsNs H' vs ns
  | _, _, .nil => .nil
  | _, _, .cons a r => .cons (isN_far hl ne nf k a) (isNs_far hl ne nf k r)
theorem stN_far {H H' : Hp} {l : Addr} {o : HO} {v : V} {s : PSt} (hl : H l = some o) (ne : ∀ xs, o ≠ .tup xs) (nf : ∀ ob xs, o ≠ .frz ob (.tup xs)) (k : ∀ b u, b ≠ l → H b = some u → H' b = some u) (h : StN H v s) : StN H' v s := by
  obtain ⟨t, w, u, z, hv, rfl, ht, hu, hw, hh, hz⟩ := h
  exact ⟨t, w, u, z, hv, rfl, rd_far hl ne nf k _ _ ht, isN_far hl ne nf k hu, rd_far hl ne nf k _ _ hw, isNs_far hl ne nf k hh, ints_keep (rd_far hl ne nf k) hz⟩
/-- what a pile is asked, told by its states -/
def spPil (CP : Addr) (g : List PSt → PyData) : Sp := fun vs H Q _ => ∃ (x r l dx : Addr) (cs : List V) (ss : List PSt), vs = [.ref x] ∧ PileK H CP x r l dx cs ss ∧ 0 < ss.length ∧ ∀ v H', Ex H H' → Dat H' v (g ss) → Q v H'
def spPRu (CP : Addr) : Sp := fun vs H Q _ => ∃ (x r l dx : Addr) (cs : List V) (ss : List PSt), vs = [.ref x] ∧ PileK H CP x r l dx cs ss ∧ ∀ H', Ex H H' → Q (.ref r) H'
def letsD : Option (Int × Int) → PyData
  | none => .none
  | some (a, b) => .tuple [.int a, .int b]
theorem lets_dat {H : Hp} {u : V} : ∀ {o : Option (Int × Int)}, LetsV H o u → Dat H u (letsD o)
  | none, h => by
    obtain rfl : u = .non := h
    exact .non
  | some (a, b), ⟨p, e, h⟩ => by
    subst e
    exact .tup h (.cons (.int a) (.cons (.int b) .nil))
theorem dat_lets {H : Hp} {u : V} : ∀ {o : Option (Int × Int)}, Dat H u (letsD o) → LetsV H o u
  | none, h => by
    cases h
    rfl
  | some (a, b), h => by
    obtain ⟨p, xs, rfl, hp, hx⟩ := tup_dat h
    cases hx with
    | cons x r =>
      cases r with
      | cons y r =>
        cases r
        cases x
        cases y
        exact ⟨p, rfl, hp⟩
/-- what a pile is asked that hangs on its rule -/
def spPilR (C CD CP : Addr) (g : List PSt → List Str → List DayD → PyData) : Sp := fun vs H Q _ => ∃ (x r l dx p q dxr : Addr) (cs : List V) (ss : List PSt) (rows : List Str) (a b : Int) (ds : List V) (dd : List DayD), vs = [.ref x] ∧ PileK H CP x r l dx cs ss ∧ 0 < ss.length ∧
  RuleK H C CD r p q dxr rows a b ds dd ∧ ∀ v H', Ex H H' → Dat H' v (g ss rows dd) → Q v H'
section
variable {K : PySem.W.Frag} {σ : L2.St} {H : Hp} {C CD CP x r l dx p q dxr : Addr} {cs : List V} {ss : List PSt} {rows : List Str} {a b : Int} {ds : List V} {dd : List DayD} {ta : TE} {g : Addr → List Str → Int → Int → V} {E : XK}
theorem RuleK.len (h : RuleK H C CD r p q dxr rows a b ds dd) : ds.length = dd.length ∧ 0 < dd.length ∧ rows.length = dd.length + 1 := by
  have h1 := h.dv.1
  rw [List.length_map] at h1
  have h2 := congrArg List.length h.dm
  rw [List.length_map, List.length_map, List.length_drop] at h2
  have := h.G.two
  omega
theorem ev_ask (ha : Ev ta σ H (.ref r)) (h : RuleK H C CD r p q dxr rows a b ds dd) : Ev (tProp C (spAsk C g) [] E ta) σ H (g p rows a b) := fun H1 e Q k =>
  ha H1 e _ fun H2 e2 => ⟨r, dxr, _, rfl, (e.trans e2) _ _ h.ins, r, dxr, p, q, rows, a, b, rfl, (e.trans e2) _ _ h.ins, (e.trans e2) _ _ h.rw_, ⟨ds, (e.trans e2) _ _ h.dy, by have := h.len; omega⟩, h.G, fun H3 e3 => k H3 (e2.trans e3)⟩
theorem ev_crs (PC : PlC K CP) (h : PileK H CP x r l dx cs ss) (h0 : σ[0]? = some (some (.ref x))) : Ev (tFld K (tVar 0) "_course") σ H (.ref l) := ev_fld (ev_var h0) h.ins PC.cl PC.n1 (pileF_course r l)
theorem ev_rul (PC : PlC K CP) (h : PileK H CP x r l dx cs ss) (h0 : σ[0]? = some (some (.ref x))) : Ev (tFld K (tVar 0) "_rule") σ H (.ref r) := ev_fld (ev_var h0) h.ins PC.cl PC.n0 (pileF_rule r l)
theorem ev_days (PC : PlC K CP) (R : Ru K C) (h : PileK H CP x r l dx cs ss) (k : RuleK H C CD r p q dxr rows a b ds dd) (h0 : σ[0]? = some (some (.ref x))) : Ev (tFld K (tFld K (tVar 0) "_rule") "days") σ H (.ref q) :=
  ev_fld (ev_rul PC h h0) k.ins R.cl R.nd (ruleF_days p q a b)
theorem ev_last {t : Addr} (PC : PlC K CP) (h : PileK H CP x r l dx cs ss) (h0 : σ[0]? = some (some (.ref x))) (hat : atI cs (-1) = some (.ref t)) : Ev (tOp (rIxL K) (tFld K (tVar 0) "_course") (tUn (rU fun i => .int (-i)) (tC (.int 1)))) σ H (.ref t) :=
  ev_op (ev_crs PC h h0) (ev_un ev_c ru_neg) (rv_ixL (sq_of h.crs) hat)
theorem rowIx_int (hn : 0 < ss.length) (hl : cs.length = ss.length) (hd : ds.length = dd.length) : ((cs.length : Int) - 1) % (ds.length : Int) = ((rowIx ss dd : Nat) : Int) := by
  rw [hl, hd, show ((ss.length : Nat) : Int) - 1 = ((ss.length - 1 : Nat) : Int) by omega]
  rfl
end
theorem s_fldR {K : PySem.W.Frag} {σ : L2.St} {H : Hp} {to te : TE} {g : Str} {D : Ends} {R : Hp → V → Prop} (h : EvR te σ H R) (k : ∀ v H1, Ex H H1 → R H1 v → to σ H1 fun x H2 => ∃ p C dx fs, x = .ref p ∧ H2 p = some (.ins C dx fs) ∧ Cls K C ∧ NoAttr K C g ∧ fs.length < 1000 ∧ D.nx σ (upd H2 p (.ins C dx (putF g v fs)))) : sFld K to te g D σ H :=
  h H (Ex.refl H) _ fun v H1 e r => k v H1 e r
section
variable {P : Program} {w : World} {K : PySem.W.Frag} {mg : Str → Option Value} {base : Heap} {C CD CP CN f fk fN gr gp ga fl : Addr} {fd dk dN dr dp da ld : FuncData} {j : Nat}
theorem ok_pst (F : Fun K "standing" "Pile.standing" sPSt f fd) (PC : PlC K CP) : FnOk P w K mg base CX0 (j + 1) f fd ["self"] (spPil CP fun ss => intsD (curSt ss).pile) := by
  refine F.ok scPSt (fun vs H Q E h => ?_) (fun cdv A outer s H vs Q E hr h => ?_)
  · obtain ⟨x, r, l, dx, cs, ss, rfl, _⟩ := h
    rfl
  · obtain ⟨x, r, l, dx, cs, ss, rfl, hp, hn, k⟩ := h
    obtain ⟨t, u, v, w_, hat, ht, hu, hv, hw⟩ := hp.cur hn
    exact ⟨_, (pss_one (ps_ret (pe_ix ix_tup (pe_ix ix_list (pe_fld (pv 0) rfl) (pe_un un_neg pe_int) (fun _ _ => rfl)) pe_int (fun _ _ => rfl)))), s_ret (ev_ixQ (eq_of (ev_last PC hp rfl hat) ht) ev_c (atI_nat (j := 0) rfl)) fun H1 e1 => k _ H1 e1 (Dat.mono e1 hu)⟩
theorem ok_phe (F : Fun K "heaps" "Pile.heaps" sPHe f fd) (PC : PlC K CP) : FnOk P w K mg base CX0 (j + 1) f fd ["self"] (spPil CP fun ss => heapsD (curSt ss).heaps) := by
  refine F.ok scPHe (fun vs H Q E h => ?_) (fun cdv A outer s H vs Q E hr h => ?_)
  · obtain ⟨x, r, l, dx, cs, ss, rfl, _⟩ := h
    rfl
  · obtain ⟨x, r, l, dx, cs, ss, rfl, hp, hn, k⟩ := h
    obtain ⟨t, u, v, w_, hat, ht, hu, hv, hw⟩ := hp.cur hn
    exact ⟨_, (pss_one (ps_ret (pe_ix ix_tup (pe_ix ix_list (pe_fld (pv 0) rfl) (pe_un un_neg pe_int) (fun _ _ => rfl)) pe_int (fun _ _ => rfl)))), s_ret (ev_ixQ (eq_of (ev_last PC hp rfl hat) ht) ev_c (atI_nat (j := 1) rfl)) fun H1 e1 => k _ H1 e1 (Dat.mono e1 hv)⟩
theorem ok_pus (F : Fun K "uses" "Pile.uses" sPUs f fd) (PC : PlC K CP) : FnOk P w K mg base CX0 (j + 1) f fd ["self"] (spPil CP fun ss => intsD (curSt ss).uses) := by
  refine F.ok scPUs (fun vs H Q E h => ?_) (fun cdv A outer s H vs Q E hr h => ?_)
  · obtain ⟨x, r, l, dx, cs, ss, rfl, _⟩ := h
    rfl
  · obtain ⟨x, r, l, dx, cs, ss, rfl, hp, hn, k⟩ := h
    obtain ⟨t, u, v, w_, hat, ht, hu, hv, hw⟩ := hp.cur hn
    exact ⟨_, (pss_one (ps_ret (pe_ix ix_tup (pe_ix ix_list (pe_fld (pv 0) rfl) (pe_un un_neg pe_int) (fun _ _ => rfl)) pe_int (fun _ _ => rfl)))), s_ret (ev_ixQ (eq_of (ev_last PC hp rfl hat) ht) ev_c (atI_nat (j := 2) rfl)) fun H1 e1 => k _ H1 e1 (Dat.mono e1 hw)⟩
theorem ok_pch (F : Fun K "changes" "Pile.changes" sPCh f fd) (B : Blt mg) (PC : PlC K CP) : FnOk P w K mg base CX0 (j + 1) f fd ["self"] (spPil CP fun ss => .int ((ss.length - 1 : Nat) : Int)) := by
  refine F.ok scPCh (fun vs H Q E h => ?_) (fun cdv A outer s H vs Q E hr h => ?_)
  · obtain ⟨x, r, l, dx, cs, ss, rfl, _⟩ := h
    rfl
  · obtain ⟨x, r, l, dx, cs, ss, rfl, hp, hn, k⟩ := h
    refine ⟨_, (pss_one (ps_ret (pe_op op_sub (pe_callB call_len_seq (by rfl) B.len PySem.boot_len (pa_cons (pe_fld (pv 0) rfl) pa_nil)) pe_int))), s_ret (v := .int ((ss.length - 1 : Nat) : Int)) (ev_is (ev_op (ev_len (ev_crs PC hp rfl) (sq_of hp.crs)) ev_c rv_I0) ?_) fun H1 e1 => k _ H1 e1 (.int _)⟩
    rw [hp.len]
    exact congrArg V.int (by omega)
theorem ok_pru (F : Fun K "rule" "Pile.rule" sPRu f fd) (PC : PlC K CP) : FnOk P w K mg base CX0 (j + 1) f fd ["self"] (spPRu CP) := by
  refine F.ok scPRu (fun vs H Q E h => ?_) (fun cdv A outer s H vs Q E hr h => ?_)
  · obtain ⟨x, r, l, dx, cs, ss, rfl, _⟩ := h
    rfl
  · obtain ⟨x, r, l, dx, cs, ss, rfl, hp, k⟩ := h
    exact ⟨_, (pss_one (ps_ret (pe_fld (pv 0) rfl))), s_ret (ev_rul PC hp rfl) fun H1 e1 => k H1 e1⟩
theorem ok_prow (F : Fun K "row" "Pile.row" sPRow f fd) (B : Blt mg) (PC : PlC K CP) (R : Ru K C) (Y : RuP K C gr gp ga dr dp da) : FnOk P w K mg base CX0 (j + 3) f fd ["self"] (spPilR C CD CP fun ss rows dd => .str (rows.getD (1 + rowIx ss dd) "")) := by
  have G0 : FnOk P w K mg base CX0 (j + 1) gr dr ["self"] (spAsk C (fun p _ _ _ => .ref p)) := ok_Rows Y.Fr B R
  obtain ⟨pr, Pr⟩ := Y.pr
  refine F.ok scPRow (fun vs H Q E h => ?_) (fun cdv A outer s H vs Q E hr h => ?_)
  · obtain ⟨x, r, l, dx, p, q, dxr, cs, ss, rows, a, b, ds, dd, rfl, _⟩ := h
    rfl
  · obtain ⟨x, r, l, dx, p, q, dxr, cs, ss, rows, a, b, ds, dd, rfl, hp, hn, hk, k⟩ := h
    have hr4 : Room (j + 2) _ := hr
    obtain ⟨d1, d2, d3⟩ := hk.len
    refine ⟨_, (pss_cons (ps_set (i := 1) scPRow.nd rfl (.inl rfl) (pe_op op_mod (pe_op op_sub (pe_callB call_len_seq (by rfl) B.len PySem.boot_len (pa_cons (pe_fld (pv 0) rfl) pa_nil)) pe_int) (pe_callB call_len_seq (by rfl) B.len PySem.boot_len (pa_cons (pe_fld (pe_fld (pv 0) rfl) rfl) pa_nil))))
      (pss_one (ps_ret (pe_ix ix_tup (pe_prop (pe_fld (pv 0) rfl) R.cl Pr G0 hr4 Y.br .nil pass0 (by rfl)) (pe_op op_add pe_int (pv 1)) (fun _ _ => rfl))))), ?_⟩
    refine q_asg (v := .int ((rowIx ss dd : Nat) : Int)) (ev_is (ev_op (ev_op (ev_len (ev_crs PC hp rfl) (sq_of hp.crs)) ev_c rv_I0) (ev_lenQ (eq_of (ev_days PC R hp hk rfl) (.inl hk.dy))) (rv_I (show (0 : Int) < (ds.length : Int) by omega))) (by rw [rowIx_int hn hp.len d1])) fun H1 e1 => ?_
    have rlt : rowIx ss dd < dd.length := Nat.mod_lt _ d2
    refine s_ret (v := .str (rows.getD (1 + rowIx ss dd) "")) (ev_ixQ (i := ((1 + rowIx ss dd : Nat) : Int)) (eq_of (ev_ask (ev_rul PC (hp.ext e1) rfl) (hk.ext e1)) (.inl (hk.ext e1).rw_)) (ev_is (ev_op ev_c (ev_var rfl) rv_I0) (congrArg V.int (by omega))) (word_at (by omega))) fun H2 e2 => k _ H2 (e1.trans e2) (.str _)
theorem ok_plets (F : Fun K "lets" "Pile.lets" sPLets f fd) (B : Blt mg) (PC : PlC K CP) (R : Ru K C) (DR : DyR K CD) (FLt : Fun K "numbers_let" "numbers_let" sLets fl ld) (bLt : Binds K ld ["day", "lying"] []) (mLt : mg "numbers_let" = some (.ref fl)) :
    FnOk P w K mg base CX0 (j + 2) f fd ["self"] (spPilR C CD CP fun ss _ dd => letsD (letsNow ss dd)) := by
  have GLt : FnOk P w K mg base CX0 (j + 1) fl ld ["day", "lying"] (spLets CD) := ok_lets FLt B DR
  refine F.ok scPLets (fun vs H Q E h => ?_) (fun cdv A outer s H vs Q E hr h => ?_)
  · obtain ⟨x, r, l, dx, p, q, dxr, cs, ss, rows, a, b, ds, dd, rfl, _⟩ := h
    rfl
  · obtain ⟨x, r, l, dx, p, q, dxr, cs, ss, rows, a, b, ds, dd, rfl, hp, hn, hk, k⟩ := h
    obtain ⟨d1, d2, d3⟩ := hk.len
    refine ⟨_, (pss_cons (ps_set (i := 1) scPLets.nd rfl (.inl rfl) (pe_fld (pe_fld (pv 0) rfl) rfl))
      (pss_cons (ps_set (i := 2) scPLets.nd rfl (.inl rfl) (pe_op op_mod (pe_op op_sub (pe_callB call_len_seq (by rfl) B.len PySem.boot_len (pa_cons (pe_fld (pv 0) rfl) pa_nil)) pe_int) (pe_callB call_len_seq (by rfl) B.len PySem.boot_len (pa_cons (pv 1) pa_nil))))
      (pss_one (ps_ret (pe_call GLt hr (by rfl) mLt FLt.kp bLt .nil pass0 (pa_cons (pe_ix ix_tup (pv 1) (pv 2) (fun _ _ => rfl)) (pa_cons (pe_callB call_len_seq (by rfl) B.len PySem.boot_len (pa_cons (pe_ix ix_tup (pe_ix ix_list (pe_fld (pv 0) rfl) (pe_un un_neg pe_int) (fun _ _ => rfl)) pe_int (fun _ _ => rfl)) pa_nil)) pa_nil))))))), ?_⟩
    refine q_asg (ev_days PC R hp hk rfl) fun H1 e1 => ?_
    refine q_asg (v := .int ((rowIx ss dd : Nat) : Int)) (ev_is (ev_op (ev_op (ev_len (ev_crs PC (hp.ext e1) rfl) (sq_of (hp.ext e1).crs)) ev_c rv_I0) (ev_lenQ (eq_of (ev_var rfl) (.inl (hk.ext e1).dy))) (rv_I (show (0 : Int) < (ds.length : Int) by omega))) (by rw [rowIx_int hn hp.len d1])) fun H2 e2 => ?_
    have e02 := e1.trans e2
    have rlt : rowIx ss dd < dd.length := Nat.mod_lt _ d2
    obtain ⟨pd, hpd, hdd⟩ := day_at hk.dv rlt
    obtain ⟨t, u, v, w_, hat, ht, hu, hv, hw⟩ := hp.cur hn
    refine s_retR (R := fun H' u => LetsV H' (letsNow ss dd) u) (fun H3 e3 Q3 q3 => ?_) fun v H3 e3 h3 => k v H3 (e02.trans e3) (lets_dat h3)
    have e03 := e02.trans e3
    refine (ev_ixQ (eq_of (ev_var rfl) (.inl (hk.ext e03).dy)) (ev_var rfl) hpd) H3 (Ex.refl H3) _ fun H4 e4 => ?_
    obtain ⟨pu, rfl, hpu⟩ := ints_dat hu
    refine (ev_ixQ (eq_of (ev_last PC (hp.ext (e03.trans e4)) rfl hat) (ex_rd (e03.trans e4) ht)) ev_c (atI_nat (j := 0) rfl)) H4 (Ex.refl H4) _ fun H5 e5 => ?_
    obtain ⟨dxd, hd5⟩ := hdd
    refine ⟨pu, _, rfl, .inr (.inl (ex_rd ((e03.trans e4).trans e5) hpu)), pd, dd.getD (rowIx ss dd) dayNone, _, rfl, ⟨dxd, ((e03.trans e4).trans e5) _ _ hd5⟩, ?_⟩
    rw [List.length_map]
    exact fun u' H6 e6 h6 => q3 u' H6 ((e4.trans e5).trans e6) h6
theorem ok_pinit (F : Fun K "__init__" "Pile.__init__" sPInit f fd) (B : Blt mg) (PC : PlC K CP) (R : Ru K C) (I : IsC K C) (Y : RuP K C gr gp ga dr dp da) (mC : mg "Rule" = some (.ref C))
    (FK : Fun K "check_rule" "check_rule" sCheck fk dk) (bK : Binds K dk ["rule"] []) (mK : mg "check_rule" = some (.ref fk)) (DN : Giv K mg "NotARule" CN fN dN) (FG : Fun K "__init__" "NotARule.__init__" sGNotARule fN dN) :
    FnOk P w K mg base (L2.CX P w) (j + 4) f fd ["self", "rule"] (spPInit K C CD CN CP) := by
  have GK : FnOk P w K mg base (L2.CX P w) (j + 3) fk dk ["rule"] (spCheck K C CN) := ok_check FK B mC DN FG
  have G2 : FnOk P w K mg base CX0 1 gp dp ["self"] (spAsk C (fun _ _ a _ => .int a)) := ok_Plates (j := 0) Y.Fp B R
  have G3 : FnOk P w K mg base CX0 1 ga da ["self"] (spAsk C (fun _ _ _ b => .int b)) := ok_Away (j := 0) Y.Fa B R
  obtain ⟨pp, Pp⟩ := Y.pp
  obtain ⟨pa, Pa⟩ := Y.pa
  refine F.okX scPInit (fun vs H Q E h => ?_) (fun cdv A outer s H vs Q E hr h => ?_)
  · obtain ⟨x, dx, v, rfl, _⟩ := h
    rfl
  · obtain ⟨x, dx, v, rfl, hx, h⟩ := h
    have hr4 := hr.mono (j := 2) (by omega)
    refine ⟨_, (pss_cons (ps_expr (pe_call GK hr (by rfl) mK FK.kp bK .nil (passes_call (takes_of rfl rfl rfl rfl) fun _ _ _ _ z => z) (pa_cons (pv 1) pa_nil)))
      (pss_cons (ps_fld (pv 0) (pv 1) rfl)
      (pss_one (ps_fld (pv 0) (pe_lst (pa_cons (pe_tup (pa_cons (pe_tupRgN rfl (by rfl) B.tuple (prg_1 (by rfl) B.range (pe_prop (pv 1) R.cl Pp G2 hr4 Y.bp .nil pass0 (by rfl)))) (pa_cons (pe_op op_repU (pe_tup (pa_cons (pe_tup pa_nil) pa_nil)) (pe_prop (pv 1) R.cl Pa G3 hr4 Y.ba .nil pass0 (by rfl))) (pa_cons (pe_op op_repU (pe_tup (pa_cons pe_int pa_nil)) (pe_prop (pv 1) R.cl Pp G2 hr4 Y.bp .nil pass0 (by rfl))) pa_nil)))) pa_nil)) rfl)))), ?_⟩
    rcases h with ⟨r, p, q, dxr, rows, a, b, ds, dd, rfl, hk, k⟩ | ⟨ty, k⟩
    · refine ⟨.ref r, rfl, .ref r, rfl, .inl ⟨fun H1 e1 => I.ty R (e1 _ _ hk.ins), fun H1 e1 => ?_⟩⟩
      have hx1 := e1 _ _ hx
      have hk1 := hk.ext e1
      refine ⟨.ref r, rfl, .ref x, rfl, x, CP, dx, [], rfl, hx1, PC.cl, PC.n0, by decide, ?_⟩
      rw [show putF "_rule" (V.ref r) [] = ([("_rule", V.ref r)] : List (Str × V)) from rfl]
      obtain ⟨H2, eH2⟩ : ∃ H2, H2 = upd H1 x (.ins CP dx [("_rule", V.ref r)]) := ⟨_, rfl⟩
      rw [← eH2]
      have hx2 : H2 x = some (.ins CP dx [("_rule", V.ref r)]) := by rw [eH2]; exact upd_same
      have far2 : ∀ c o, c ≠ x → H1 c = some o → H2 c = some o := fun c o n e => by rw [eH2, upd_ne n]; exact e
      have hk2 : RuleK H2 C CD r p q dxr rows a b ds dd := hk1.far hx1 (fun _ _ _ _ z => by cases z) (fun _ z => by cases z) far2
      obtain ⟨a2, a10, b0, b2⟩ := first_bounds hk.G.head
      -- the course
      have pl : ∀ {E : XK}, Ev (tProp C (spAsk C (fun _ _ a _ => V.int a)) [] E (tVar 1)) [some (.ref x), some (.ref r)] H2 (.int a) := ev_ask (ev_var rfl) hk2
      have aw : ∀ {E : XK}, Ev (tProp C (spAsk C (fun _ _ _ b => V.int b)) [] E (tVar 1)) [some (.ref x), some (.ref r)] H2 (.int b) := ev_ask (ev_var rfl) hk2
      dsimp only
      refine s_fldR (R := fun H' v => ∃ l t, v = .ref l ∧ H' l = some (.lst [.ref t]) ∧ H2 l = none ∧ StN H' (.ref t) (st0 a b)) (fun H3 e3 Q3 q3 => ?_) fun v H9 e9 ⟨l, t, ev, hl9, hl2, ht9⟩ => ?_
      · refine pl H3 e3 _ fun H4 e4 => ⟨a, rfl, RgOk.of_le (by omega) (by omega) (by omega) (by omega), fun t1 o1 n1 hc1 hd1 => ?_⟩
        have e24 := (e3.trans e4).trans (Ex.new (o := .frz o1 (.tup (rgV 0 a))) n1)
        -- heaps
        refine ⟨Nat.zero_le _, fun t0 n0 => ⟨by show 1 ≤ sizeLine; decide, fun t2 n2 => ?_⟩⟩
        have e25 := (e24.trans (Ex.new (o := .tup []) n0)).trans (Ex.new (o := .tup [V.ref t0]) n2)
        refine aw _ e25 _ fun H6 e6 => ?_
        have h6 := e6 _ _ (upd_same (H := upd (upd H4 t1 (.frz o1 (.tup (rgV 0 a)))) t0 (.tup [])) (a := t2) (o := .tup [V.ref t0]))
        have h60 : H6 t0 = some (.tup []) := e6 _ _ (Ex.new n2 _ _ upd_same)
        have h61 : H6 t1 = some (.frz o1 (.tup (rgV 0 a))) := e6 _ _ (Ex.new n2 _ _ (Ex.new n0 _ _ upd_same))
        have rest : ∀ th H7, Ex H6 H7 → Rd H7 th (.tup (List.replicate b.toNat (V.ref t0))) → tCons (tOp (rRepU K) (tTup (tCons (tC (.int 0)) tNil)) (tProp C (spAsk C (fun _ _ a _ => V.int a)) [] E0 (tVar 1))) tNil [some (.ref x), some (.ref r)] H7
            (fun vs H8 => (V.ref t1 :: V.ref th :: vs).length ≤ sizeLine ∧ ∀ t, H8 t = none → ((1 : Nat) ≤ sizeLine ∧ ∀ l, (upd H8 t (.tup (V.ref t1 :: V.ref th :: vs))) l = none → Q3 (.ref l) (upd (upd H8 t (.tup (V.ref t1 :: V.ref th :: vs))) l (.lst [.ref t])))) := fun th H7 e7 h7 => by
          have e27 := (e25.trans e6).trans e7
          refine (eq_rep (k := a) (eq_tup (xs := [.int 0]) (ea_cons ev_c ea_nil) (Nat.le_of_ble_eq_true rfl)) (Ev.mono e27 pl) (by simp) (by omega) (by omega) (by decide)) H7 (Ex.refl H7) _ fun v H8 e8 ⟨tu, ev, htu⟩ => ?_
          subst ev
          refine ⟨by show 3 ≤ sizeLine; decide, fun t nt => ⟨by decide, fun l nl => ?_⟩⟩
          have nl8 : H8 l = none := fresh_back (Ex.new nt) nl
          refine q3 _ _ ?_ ⟨l, t, rfl, upd_same, fresh_back (e27.trans e8) nl8, ?_⟩
          · exact ((((e4.trans (Ex.new n1)).trans ((Ex.new n0).trans (Ex.new n2))).trans e6).trans (e7.trans e8)).trans ((Ex.new nt).trans (Ex.new nl))
          · have up : Ex H8 (upd (upd H8 t (.tup [V.ref t1, V.ref th, V.ref tu])) l (.lst [.ref t])) := (Ex.new nt).trans (Ex.new nl)
            refine ⟨t, th, _, _, _, rfl, .inl (Ex.new nl _ _ upd_same), ?_, ex_rd up (ex_rd e8 h7), ?_, ?_⟩
            · have tn : TupN (upd (upd H8 t (.tup [V.ref t1, V.ref th, V.ref tu])) l (.lst [.ref t])) t1 ((rangeI a).map V.int) := ⟨o1, by rw [← rgV_ints]; exact up _ _ (e8 _ _ (e7 _ _ h61)), hc1, hd1⟩
              exact ⟨t1, rfl, tn.rd, fun _ => tn⟩
            · rw [show (st0 a b).heaps = List.replicate b.toNat [] from rfl]
              exact isNs_rep (n := []) ⟨t0, rfl, .inl (up _ _ (e8 _ _ (e7 _ _ h60))), fun z => absurd rfl z⟩ _
            · refine dat_ints (ex_rd up ?_)
              rw [flat_one] at htu
              rw [show (st0 a b).uses = List.replicate a.toNat 0 from rfl, List.map_replicate]
              exact htu
        refine ⟨t2, b, [.ref t0], rfl, rfl, .inl (.inl h6), by simp, b0, by omega, (by show 1 ≤ 1000; decide), fun z => ?_, fun z th nth => ?_⟩
        · subst z
          exact rest t2 H6 (Ex.refl H6) (.inl h6)
        · refine rest th _ (Ex.new nth) (.inl ?_)
          rw [flat_one]
          exact upd_same
      · subst ev
        have hx9 : H9 x = some (.ins CP dx [("_rule", V.ref r)]) := e9 _ _ hx2
        refine ⟨.ref x, rfl, x, CP, dx, _, rfl, hx9, PC.cl, PC.n1, (by show 1 < 1000; decide), ?_⟩
        rw [putN (by decide +kernel), show putF "_course" (V.ref l) [] = ([("_course", V.ref l)] : List (Str × V)) from rfl]
        have lx : l ≠ x := fun z => by
          rw [z, hx2] at hl2
          cases hl2
        have nl0 : H l = none := by
          cases hq : H l with
          | none => rfl
          | some o => rw [far2 l o lx (e1 _ _ hq)] at hl2; cases hl2
        refine k l [.ref t] _ nl0 (fun c o n e => ?_) ⟨upd_same, (upd_ne lx).trans hl9, .cons ?_ .nil⟩
        · rw [upd_ne n]
          exact e9 _ _ (far2 c o n (e1 _ _ e))
        · have hlu : (upd H9 x (.ins CP dx [("_rule", V.ref r), ("_course", V.ref l)])) l = some (.lst [.ref t]) := (upd_ne lx).trans hl9
          exact stN_hide hlu (stN_far hx9 (fun _ z => by cases z) (fun _ _ z => by cases z) (fun b u n e => (upd_ne n).trans e) ht9)
    · exact ⟨v, rfl, v, rfl, .inr ⟨ty, k⟩⟩
end
end PW
namespace PW
open PySem PySem.Spec PyProof.Rows L2 Evl
/-! ### a day, and a day taken back -/
theorem inBounds {s : Str} {d : DayD} (h : dayOf s = some d) : 0 ≤ d.least ∧ 0 ≤ d.depth ∧ d.least ≤ 6 ∧ d.most ≤ 6 ∧ d.depth ≤ 10 := by
  have cut_ : ∀ ws, cutOf ws = some d → 0 ≤ d.least ∧ 0 ≤ d.depth ∧ d.least ≤ 6 ∧ d.most ≤ 6 ∧ d.depth ≤ 10 := fun ws h => by
    unfold cutOf at h
    split at h
    · obtain ⟨n, hn, rfl⟩ := Option.map_eq_some_iff.mp h
      have := readNum_le hn
      refine ⟨?_, ?_, ?_, ?_, ?_⟩ <;> dsimp only <;> omega
    · cases h
  have take_ : ∀ ws, takeOf ws = some d → 0 ≤ d.least ∧ 0 ≤ d.depth ∧ d.least ≤ 6 ∧ d.most ≤ 6 ∧ d.depth ≤ 10 := fun ws h => by
    unfold takeOf at h
    split at h
    · cases h
    · obtain ⟨l, hl, h2⟩ := Option.bind_eq_some_iff.mp h
      have b1 := readNum_le hl
      unfold takeTail at h2
      split at h2
      · rename_i m e hm he
        have b2 := readNum_le hm
        have b3 : 0 ≤ e ∧ e ≤ 10 := by
          unfold depthOf at he
          split at he
          · obtain rfl := Option.some.inj he
            decide
          · split at he
            · obtain rfl := Option.some.inj he
              decide
            · split at he
              · have := readNum_le he
                omega
              · cases he
        split at h2
        · obtain rfl := Option.some.inj h2
          refine ⟨?_, ?_, ?_, ?_, ?_⟩ <;> dsimp only <;> omega
        · cases h2
      · cases h2
  unfold dayOf at h
  split at h
  · obtain rfl := Option.some.inj h
    refine ⟨?_, ?_, ?_, ?_, ?_⟩ <;> dsimp only <;> omega
  · split at h
    · exact cut_ _ h
    · exact take_ _ h
theorem RuleK.bounds {H : Hp} {C CD r p q dx : Addr} {rows : List Str} {a b : Int} {ds : List V} {dd : List DayD} (h : RuleK H C CD r p q dx rows a b ds dd) : ∀ d ∈ dd, 0 ≤ d.least ∧ 0 ≤ d.depth ∧ d.least ≤ 6 ∧ d.most ≤ 6 ∧ d.depth ≤ 10 := fun d hd => by
  have h1 : some d ∈ dd.map some := List.mem_map.mpr ⟨d, hd, rfl⟩
  rw [← h.dm] at h1
  obtain ⟨s, _, hs⟩ := List.mem_map.mp h1
  exact inBounds hs
theorem s_pop {K : PySem.W.Frag} {σ : L2.St} {H : Hp} {ta : TE} {D : Ends} {l : Addr} {cs : List V} {y : V} (ha : Ev ta σ H (.ref l)) (hl : H l = some (.lst cs)) (hy : cs[cs.length - 1]? = some y) (k : ∀ H1, Ex H H1 → D.nx σ (upd H1 l (.lst cs.dropLast))) : tDrop (tBM0 K "list" rPop ta) D σ H :=
  ha H (Ex.refl H) _ fun H2 e2 => ⟨.inl ⟨rfl, _, sq_of (e2 _ _ hl)⟩, l, cs, y, rfl, rfl, e2 _ _ hl, hy, k H2 e2⟩
/-- a class of errors without attributes -/
structure Nul (K : PySem.W.Frag) (mg : Str → Option Value) (x : Str) (C : Addr) : Prop where
  T : XC K C
  xm : PySem.W.excInitIn K C [.type "ArithmeticError", .type "Exception", .type "BaseException", .type "object"] "ArithmeticError.__new__" = true
  i : PySem.W.findIn K (.ref C) "__init__" = some (some (.builtin "ArithmeticError.__init__"))
  m : mg x = some (.ref C)
  sub : PySem.W.subIn K (.ref C) (.type "BaseException") = some true
  ty : PySem.W.typeIn K (.ref C) = some (.type "type")
/-- the sizes of a state -/
def Small (s : PSt) : Prop := s.pile.length ≤ 1000 ∧ (∀ h ∈ s.heaps, h.length ≤ 1000) ∧ s.heaps.length ≤ 1000 ∧ s.uses.length ≤ 1000
def spDayP (K : PySem.W.Frag) (C CD CP CI CL : Addr) : Sp := fun vs H Q E => ∃ (x r l dx p q dxr : Addr) (cs : List V) (ss : List PSt) (rows : List Str) (a b : Int) (ds : List V) (dd : List DayD) (v : V) (on : Option Int), vs = [.ref x, v] ∧ PileK H CP x r l dx cs ss ∧ 0 < ss.length ∧ ss.length ≤ 10000 ∧ Small (curSt ss) ∧
  RuleK H C CD r p q dxr rows a b ds dd ∧ IntV K H v on ∧ match on with
  | none => ∀ d H', H d = none → Ex H H' → H' d = some (exd d [("given", v)]) → E (.ref CI) (some d) H'
  | some k => if isLet (letsNow ss dd) (some k) = true then ∀ u c H', But l H H' → PileK H' CP x r l dx (cs ++ [c]) (ss ++ [nextSt dd ss k]) → Dat H' u (intsD ((curSt ss).pile.take k.toNat)) → Q u H'
    else ∀ d H', H d = none → Ex H H' → H' d = some (exd d [("given", v)]) → E (.ref CL) (some d) H'
def spUndo (CP CU : Addr) : Sp := fun vs H Q E => ∃ (x r l dx : Addr) (cs : List V) (ss : List PSt), vs = [.ref x] ∧ PileK H CP x r l dx cs ss ∧ 0 < ss.length ∧ ss.length ≤ 10000 ∧
  if ss.length = 1 then ∀ H', Ex H H' → E (.ref CU) none H' else ∀ H', But l H H' → PileK H' CP x r l dx cs.dropLast ss.dropLast → Q .non H'
theorem dats_take {H : Hp} : ∀ {xs : List V} {ds : List PyData} (n : Nat), Dats H xs ds → Dats H (xs.take n) (ds.take n)
  | _, _, 0, _ => .nil
  | _, _, n + 1, .nil => .nil
  | _, _, n + 1, .cons a r => .cons a (dats_take n r)
section
variable {P : Program} {w : World} {K : PySem.W.Frag} {mg : Str → Option Value} {base : Heap} {C CD CP CI CL CU f fn ft fl fb fr fd_ gl gc fI fL : Addr} {fd nd td ld bd rd dd_ dl dc dI dL : FuncData} {j : Nat}
theorem ok_dayP (kib : PySem.W.kitOne K (.type "int") (.type "bool") = some false) (F : Fun K "day" "Pile.day" sDayP f fd) (B : Blt mg) (PC : PlC K CP) (R : Ru K C) (DR : DyR K CD)
    (FN : Fun K "is_integer" "is_integer" sIsInt fn nd) (bN : Binds K nd ["value"] []) (mN : mg "is_integer" = some (.ref fn))
    (FT : Fun K "is_let" "is_let" sIsLet ft td) (bT : Binds K td ["number", "lets"] []) (mT : mg "is_let" = some (.ref ft))
    (FLt : Fun K "numbers_let" "numbers_let" sLets fl ld) (bLt : Binds K ld ["day", "lying"] []) (mLt : mg "numbers_let" = some (.ref fl))
    (FB : Fun K "behind_day" "behind_day" sBeh fb bd) (bB : Binds K bd ["days", "row", "pile", "heaps", "number"] []) (mB : mg "behind_day" = some (.ref fb))
    (FR : Fun K "rearranged" "rearranged" sRe fr rd) (bR : Binds K rd ["day", "pile"] []) (mR : mg "rearranged" = some (.ref fr))
    (FL : Fun K "laid_back" "laid_back" sLaid fd_ dd_) (bL : Binds K dd_ ["day", "pile", "heap"] []) (mL : mg "laid_back" = some (.ref fd_))
    (FGl : Fun K "lets" "Pile.lets" sPLets gl dl) (bl : Binds K dl ["self"] []) (pl : ∃ p, PropOf K CP "lets" p gl)
    (FGc : Fun K "changes" "Pile.changes" sPCh gc dc) (bc : Binds K dc ["self"] []) (pc : ∃ p, PropOf K CP "changes" p gc)
    (DI : Giv K mg "InvalidNumber" CI fI dI) (FI : Fun K "__init__" "InvalidNumber.__init__" sGInvalidNumber fI dI) (DL : Giv K mg "NotLet" CL fL dL) (FLL : Fun K "__init__" "NotLet.__init__" sGNotLet fL dL) :
    FnOk P w K mg base (L2.CX P w) (j + 4) f fd ["self", "number"] (spDayP K C CD CP CI CL) := by
  have GI : FnOk P w K mg base CX0 1 fI dI ["self", "given"] (spOne "given" CI) := ok_GInvalidNumber (j := 0) FI DI
  have GL : FnOk P w K mg base CX0 1 fL dL ["self", "given"] (spOne "given" CL) := ok_GNotLet (j := 0) FLL DL
  have GN : FnOk P w K mg base CX0 (j + 3) fn nd ["value"] (spIsInt K) := ok_isInt (j := j + 2) kib FN B
  have GT : FnOk P w K mg base CX0 (j + 3) ft td ["number", "lets"] (spIsLet K) := ok_isLet (j := j + 1) kib FT B FN bN mN
  have GB : FnOk P w K mg base CX0 (j + 3) fb bd ["days", "row", "pile", "heaps", "number"] (spBeh CD) := ok_beh (j := j + 1) FB B DR FR bR mR FL bL mL
  have GL1 : FnOk P w K mg base CX0 (j + 2) gl dl ["self"] (spPilR C CD CP fun ss _ dd => letsD (letsNow ss dd)) := ok_plets (j := j) FGl B PC R DR FLt bLt mLt
  have GCh : FnOk P w K mg base CX0 (j + 2) gc dc ["self"] (spPil CP fun ss => .int ((ss.length - 1 : Nat) : Int)) := ok_pch (j := j + 1) FGc B PC
  obtain ⟨pl_, Pl⟩ := pl
  obtain ⟨pc_, Pch⟩ := pc
  refine F.okX scDayP (fun vs H Q E h => ?_) (fun cdv A outer s H vs Q E hr h => ?_)
  · obtain ⟨x, r, l, dx, p, q, dxr, cs, ss, rows, a, b, ds, dd, v, on, rfl, _⟩ := h
    rfl
  · obtain ⟨x, r, l, dx, p, q, dxr, cs, ss, rows, a, b, ds, dd, v, on, rfl, hp, hn, hz, sm, hk, hv, k⟩ := h
    have hr4 : Room (j + 3) _ := hr
    have hr2 := hr.mono (j := 2) (by omega)
    obtain ⟨d1, d2, d3⟩ := hk.len
    have hl := hp.len
    refine ⟨_, (pss_cons (ps_if (pt_not (pt_val (pe_call GN hr (by rfl) mN FN.kp bN .nil pass0 (pa_cons (pv 1) pa_nil)))) (pss_one (ps_raise rfl (takes_of rfl rfl rfl rfl) (pmk_exo rfl (pe_mkX DI.T DI.i DI.t GI hr2 (by rfl) DI.m (pa_cons (pv 1) pa_nil) DI.b)))) pss_nil)
      (pss_cons (ps_if (pt_not (pt_val (pe_call GT hr (by rfl) mT FT.kp bT .nil pass0 (pa_cons (pv 1) (pa_cons (pe_prop (pv 0) PC.cl Pl GL1 hr4 bl .nil pass0 (by rfl)) pa_nil))))) (pss_one (ps_raise rfl (takes_of rfl rfl rfl rfl) (pmk_exo rfl (pe_mkX DL.T DL.i DL.t GL hr2 (by rfl) DL.m (pa_cons (pv 1) pa_nil) DL.b)))) pss_nil)
      (pss_cons (ps_asg (pe_ix ix_list (pe_fld (pv 0) rfl) (pe_un un_neg pe_int) (fun _ _ => rfl)) (pg_tup rfl (pgs_cons (pg_name (i := 2) scDayP.nd rfl (.inl rfl)) (pgs_cons (pg_name (i := 3) scDayP.nd rfl (.inl rfl)) (pgs_cons (pg_name (i := 4) scDayP.nd rfl (.inr rfl)) pgs_nil)))))
      (pss_cons (ps_set (i := 5) scDayP.nd rfl (.inr rfl) (pe_slice sl_tupA (pv 2) po_none (po_some (pv 1))))
      (pss_cons (ps_set (i := 6) scDayP.nd rfl (.inl rfl) (pe_fld (pe_fld (pv 0) rfl) rfl))
      (pss_cons (ps_set (i := 7) scDayP.nd rfl (.inl rfl) (pe_op op_mod (pe_prop (pv 0) PC.cl Pch GCh hr4 bc .nil pass0 (by rfl)) (pe_callB call_len_seq (by rfl) B.len PySem.boot_len (pa_cons (pv 6) pa_nil))))
      (pss_cons (ps_asg (pe_call GB hr (by rfl) mB FB.kp bB .nil pass0 (pa_cons (pv 6) (pa_cons (pv 7) (pa_cons (pv 2) (pa_cons (pv 3) (pa_cons (pv 1) pa_nil)))))) (pg_tup rfl (pgs_cons (pg_name (i := 2) scDayP.nd rfl (.inl rfl)) (pgs_cons (pg_name (i := 3) scDayP.nd rfl (.inl rfl)) pgs_nil))))
      (pss_cons (ps_set (i := 4) scDayP.nd rfl (.inr rfl) (pe_callTy call_tuple_of (by rfl) B.tuple bTuple (pa_cons (pe_lc (own := [("plate", 8)]) (g := gName 8) (tt := tYes) rfl scDayP.nd (pi_range1 rfl B.range (pa_cons (pe_callB call_len_seq (by rfl) B.len PySem.boot_len (pa_cons (pv 4) pa_nil)) pa_nil)) (blkOk_by (N := ["self", "number", "pile", "heaps", "counts", "used", "days", "row", "plate"]) (sc := defScope sDayP) (by decide +kernel)) (fun _ _ _ _ _ => pg_name (i := 8) scDayP.nd rfl (Or.inl rfl)) (fun _ _ _ _ _ => pts_nil) (fun _ _ _ _ _ => as_peK (t' := tOp (rI0 fun i j => .int (i + j)) (tOp (rIxT K) (tVar 4) (tVar 8)) (tCB (fun xs H Q => (∃ i, xs = [.int i] ∧ Q (.int i) H) ∨ ∃ k, xs = [.bl k] ∧ Q (.int (if k then 1 else 0)) H) (tCons (tOp (rIn K false) (tVar 8) (tVar 5)) tNil))) (pe_op op_add (pe_ix ix_tup (pv 4) (pv 8) (fun _ _ => rfl)) (pe_callTy call_int1 (by rfl) B.int PyProof.Rows.Boot.int (pa_cons (pe_cmpR op_in_seq (pv 8) (pv 5) rfl) pa_nil))) rfl)) pa_nil)))
      (pss_cons (ps_expr (pe_bm PySem.F.plainAttrs_list PySem.F.slot_list_append PySem.F.type_list_append mt_append (pe_fld (pv 0) rfl) (pa_cons (pe_tup (pa_cons (pv 2) (pa_cons (pv 3) (pa_cons (pv 4) pa_nil)))) pa_nil)))
      (pss_one (ps_ret (pv 5)))))))))))), ?_⟩
    refine q_when (b := !on.isSome) (et_not (et_B (ev_call (z := .bl on.isSome) (ea_cons (ev_var rfl) ea_nil) fun H1 e1 Q1 q1 _ => ⟨v, on, rfl, hv.ext e1, fun H2 e2 => q1 H2 e2⟩))) (fun z H1 e1 => ?_) (fun z H1 e1 => ?_)
    · have z' : on = none := by simpa using z
      subst z'
      exact raise_one (H0 := H) rfl e1 (ea_cons (ev_var rfl) ea_nil) (raises_own DI.sub DI.ty) fun d H' nd e' hd => k d H' (fresh_back e1 nd) (e1.trans e') hd
    obtain ⟨n, rfl⟩ : ∃ n, on = some n := Option.isSome_iff_exists.mp (by simpa using z)
    obtain rfl : v = .int n := hv
    have hp1 := hp.ext e1
    have hk1 := hk.ext e1
    refine q_when (b := !isLet (letsNow ss dd) (some n)) (et_not (et_B (fun H9 e9 Q9 q9 => ⟨.int n, rfl, .ref x, rfl, x, dx, _, rfl, (hp1.ext e9).ins, x, r, l, dx, p, q, dxr, cs, ss, rows, a, b, ds, dd, rfl, hp1.ext e9, hn, hk1.ext e9, fun u H' e' hu =>
        ⟨.int n, u, some n, letsNow ss dd, rfl, rfl, dat_lets hu, fun H2 e2 => q9 H2 (e'.trans e2)⟩⟩))) (fun z2 H2 e2 => ?_) (fun z2 H2 e2 => ?_)
    · have z' : isLet (letsNow ss dd) (some n) = false := by simpa using z2
      have k' : ∀ d H', H d = none → Ex H H' → H' d = some (exd d [("given", V.int n)]) → E (.ref CL) (some d) H' := by
        have := k
        simp only [z'] at this
        exact this
      have e02 := e1.trans e2
      exact raise_one (H0 := H) rfl e02 (ea_cons (ev_var rfl) ea_nil) (raises_own DL.sub DL.ty) fun d H' nd e' hd => k' d H' (fresh_back e02 nd) (e02.trans e') hd
    have z' : isLet (letsNow ss dd) (some n) = true := by simpa using z2
    have k' : ∀ u c H', But l H H' → PileK H' CP x r l dx (cs ++ [c]) (ss ++ [nextSt dd ss n]) → Dat H' u (intsD ((curSt ss).pile.take n.toNat)) → Q u H' := by
      have := k
      simp only [z', if_true] at this
      exact this
    have e02 := e1.trans e2
    have hp2 := hp.ext e02
    have hk2 := hk.ext e02
    have rlt : rowIx ss dd < dd.length := Nat.mod_lt _ d2
    have bd_ := hk.bounds
    have n0 : 0 ≤ n := by
      have hd := bd_ (dd.getD (rowIx ss dd) dayNone) (by
        rw [List.getD_eq_getElem?_getD, List.getElem?_eq_getElem rlt]
        exact List.getElem_mem rlt)
      unfold letsNow letsOf at z'
      split at z'
      · cases z'
      · simp only [isLet, Bool.and_eq_true, decide_eq_true_eq] at z'
        omega
    obtain ⟨sm1, sm2, sm3, sm4⟩ := sm
    obtain ⟨t, ph, u, w_, hvs, hat, ht, hu, hph, hhv, hw⟩ := hp2.curN hn
    obtain ⟨pu, rfl, hpu, _⟩ := id hu
    obtain ⟨pw, rfl, hpw⟩ := ints_dat hw
    -- pile, heaps, counts
    refine (ev_last PC hp2 rfl hat) H2 (Ex.refl H2) _ fun H3 e3 => ⟨t, _, rfl, .inl (ex_rd e3 ht), rfl, _, _, rfl, _, _, rfl, _, _, rfl, rfl, ?_⟩
    have e03 := e02.trans e3
    -- used
    refine q_asgR (eq_slice (eq_of (ev_var rfl) (ex_rd e3 hpu)) eo_none (eo_some (ev_var rfl))) fun v H4 e4 ⟨us, ev, hus⟩ => ?_
    subst ev
    rw [cut_to n0, ← List.map_take] at hus
    have e04 := e03.trans e4
    have e24 := e3.trans e4
    -- days, row
    refine q_asg (ev_days PC R (hp.ext e04) (hk.ext e04) rfl) fun H5 e5 => ?_
    have e05 := e04.trans e5
    have e25 := e24.trans e5
    have chg : ∀ {H9 : Hp} {σ9 : L2.St}, Ex H H9 → σ9[0]? = some (some (.ref x)) → Ev (tProp CP (spPil CP fun ss => .int ((ss.length - 1 : Nat) : Int)) [] E0 (tVar 0)) σ9 H9 (.int ((ss.length - 1 : Nat) : Int)) := fun e9 h0 H10 e10 Q10 q10 =>
      ⟨.ref x, h0, x, dx, _, rfl, (hp.ext (e9.trans e10)).ins, x, r, l, dx, cs, ss, rfl, hp.ext (e9.trans e10), hn, fun v H' e' hd => by
        cases hd
        exact q10 H' e'⟩
    refine q_asg (v := .int ((rowIx ss dd : Nat) : Int)) (ev_is (ev_op (chg e05 rfl) (ev_lenQ (eq_of (ev_var rfl) (.inl (hk.ext e05).dy))) (rv_I (show (0 : Int) < (ds.length : Int) by omega))) (by rw [d1]; rfl)) fun H6 e6 => ?_
    have e06 := e05.trans e6
    have e26 := e25.trans e6
    -- behind_day
    refine ⟨.ref q, rfl, .int ((rowIx ss dd : Nat) : Int), rfl, .ref pu, rfl, .ref ph, rfl, .int n, rfl, q, ph, .ref pu, ds, hvs, dd, rowIx ss dd, (curSt ss).pile, (curSt ss).heaps, n, rfl, .inl (hk.ext e06).dy, (hk.ext e06).dv, rlt, isN_mono _ _ _ _ e26 hu, ex_rd e26 hph, hhv.ext e26, n0, fun d hd => (bd_ d hd).2.1, sm1, sm2, sm3,
      fun tt uu v2 hv2 H7 e7 ht7 hu7 hv7 hh7 => ⟨tt, [uu, .ref v2], rfl, st_of ht7, rfl, uu, [.ref v2], rfl, .ref v2, [], rfl, rfl, ?_⟩⟩
    have e07 := e06.trans e7
    have e27 := e26.trans e7
    -- counts
    have usl : ((curSt ss).uses.map V.int).length = (curSt ss).uses.length := List.length_map ..
    dsimp only
    have hw7 : Rd H7 pw (.tup ((curSt ss).uses.map V.int)) := ex_rd e27 hpw
    have hus7 : Rd H7 us (.tup (((curSt ss).pile.take n.toNat).map V.int)) := ex_rd ((e5.trans e6).trans e7) hus
    refine q_asgR (eq_is (eq_tupleL (el_lcR1 (n := ((curSt ss).uses.length : Int)) (fun _ => true) (fun i => V.int ((curSt ss).uses.getD i 0 + (if inV (.int (i : Int)) (((curSt ss).pile.take n.toNat).map V.int) then 1 else 0))) (ea_cons (ev_is (ev_lenQ (eq_of (ev_var rfl) hw7)) (by rw [usl])) ea_nil) ⟨by omega, by omega⟩ (fun _ => rfl) (fun i H9 e9 hi => et_yes) (fun i H9 e9 hi _ => ?_))) (?_ : _ = (usesNext (curSt ss).uses ((curSt ss).pile.take n.toNat)).map V.int)) fun v H8 e8 ⟨pc9, ev, hc9⟩ => ?_
    · have hi' : i < (curSt ss).uses.length := by omega
      refine ev_op (ev_ixQ (i := (i : Int)) (v := .int ((curSt ss).uses.getD i 0)) (eq_of (ev_var rfl) (ex_rd e9 hw7)) (ev_var rfl) (atI_nat ?_)) (ev_cb (z := .int (if inV (.int (i : Int)) (((curSt ss).pile.take n.toNat).map V.int) then 1 else 0)) (ea_cons (ev_op (ev_var rfl) (ev_var rfl) (z := .bl (inV (.int (i : Int)) (((curSt ss).pile.take n.toNat).map V.int))) (fun H10 e10 Q10 q10 => ⟨us, _, rfl, .inr (.inl (ex_rd (e9.trans e10) hus7)), rfl, ?_, q10 H10 (Ex.refl H10)⟩)) ea_nil) fun H10 e10 Q10 q10 => .inr ⟨_, rfl, q10 H10 (Ex.refl H10)⟩) rv_I0
      · rw [List.getElem?_map, List.getElem?_eq_getElem hi', List.getD_eq_getElem?_getD, List.getElem?_eq_getElem hi']
        rfl
      · rw [List.all_map]
        exact List.all_eq_true.mpr fun _ _ => rfl
    · rw [given_true, usesNext, List.map_map]
      rfl
    subst ev
    have e08 := e07.trans e8
    have hp8 := hp.ext e08
    -- append
    refine q_appU (K := K) hp8.crs (ev_crs PC hp8 rfl) (eu_tup (vs := [uu, .ref v2, .ref pc9]) (ea_cons (ev_var rfl) (ea_cons (ev_var rfl) (ea_cons (ev_var rfl) ea_nil))) (Nat.le_of_ble_eq_true rfl)) (by omega) fun tp H9 ntp e9 htp => ?_
    have e09 := e08.trans e9
    have hl9 : H9 l = some (.lst cs) := e09 _ _ hp.crs
    obtain ⟨H10, eH10⟩ : ∃ H10, H10 = upd H9 l (.lst (cs ++ [.ref tp])) := ⟨_, rfl⟩
    have far : But l H H10 := fun b o ne e => by rw [eH10, upd_ne ne]; exact e09 _ _ e
    have rfar : ∀ p xs, Rd H9 p (.tup xs) → Rd H10 p (.tup xs) := fun p xs h => rd_far hl9 (fun _ z => by cases z) (fun _ _ z => by cases z) (fun b u ne e => by rw [eH10, upd_ne ne]; exact e) p xs h
    have hl10 : H10 l = some (.lst (cs ++ [.ref tp])) := by rw [eH10]; exact upd_same
    have xl : x ≠ l := fun z => by
      have := hp.ins
      rw [z, hp.crs] at this
      cases this
    rw [← eH10]
    refine ⟨.ref us, rfl, k' (.ref us) (.ref tp) H10 far ⟨far _ _ xl hp.ins, hl10, ?_⟩ ?_⟩
    · exact (hp.nst.ext far.hide).app (stN_hide hl10 (stN_far hl9 (fun _ z => by cases z) (fun _ _ z => by cases z) (fun b u ne e => by rw [eH10, upd_ne ne]; exact e) ⟨tp, v2, uu, .ref pc9, hv2, rfl, .inl htp, isN_mono _ _ _ _ (e8.trans e9) hu7, ex_rd (e8.trans e9) hv7, hh7.ext (e8.trans e9), dat_ints (ex_rd e9 hc9)⟩))
    · exact ints_keep rfar (dat_ints (ex_rd ((((e5.trans e6).trans e7).trans e8).trans e9) hus))
end
end PW
namespace PW
open PySem PySem.Spec PyProof.Rows L2 Evl
/-! ### piles, as laws ask them -/
theorem rearr_len (d : DayD) (p : List Int) : (rearr d p).length = p.length := by
  unfold rearr
  split
  · exact List.length_reverse
  · split
    · rw [List.length_append, List.length_drop, List.length_take]
      omega
    · rfl
theorem laid_len (d : DayD) (p h : List Int) : (laidBack d p h).length = p.length + h.length := by
  unfold laidBack
  rw [List.length_append, List.length_append, List.length_take, List.length_drop]
  have : (if d.turned = true then h.reverse else h).length = h.length := by
    split
    · exact List.length_reverse
    · rfl
  rw [this]
  omega
/-- all plates, those in the pile and those that are away -/
def total (s : PSt) : Nat := s.pile.length + (s.heaps.map List.length).sum
theorem sum_app (xs : List (List Int)) (y : List Int) : ((xs ++ [y]).map List.length).sum = (xs.map List.length).sum + y.length := by
  simp
theorem head_drop (xs : List (List Int)) (h : xs ≠ []) : (xs.getD 0 []).length + ((xs.drop 1).map List.length).sum = (xs.map List.length).sum := by
  cases xs with
  | nil => exact absurd rfl h
  | cons a b => simp
theorem next_total (dd : List DayD) (ss : List PSt) (k : Int) : total (nextSt dd ss k) = total (curSt ss) := by
  unfold nextSt total behindDay
  dsimp only
  rw [laid_len, rearr_len, List.length_drop]
  have h1 := head_drop ((curSt ss).heaps ++ [(curSt ss).pile.take k.toNat]) (by simp)
  have h2 := sum_app (curSt ss).heaps ((curSt ss).pile.take k.toNat)
  rw [List.length_take] at h2
  omega
theorem next_heaps (dd : List DayD) (ss : List PSt) (k : Int) : (nextSt dd ss k).heaps.length = (curSt ss).heaps.length := by
  unfold nextSt behindDay
  dsimp only
  rw [List.length_drop, List.length_append]
  simp
theorem next_uses (dd : List DayD) (ss : List PSt) (k : Int) : (nextSt dd ss k).uses.length = (curSt ss).uses.length := by
  unfold nextSt usesNext
  dsimp only
  rw [List.length_map, List.length_range]
theorem cur_app (ss : List PSt) (s : PSt) : curSt (ss ++ [s]) = s := by
  unfold curSt
  simp
theorem le_sum {n : Nat} : ∀ {xs : List Nat}, n ∈ xs → n ≤ xs.sum
  | x :: xs, h => by
    rw [List.sum_cons]
    rcases List.mem_cons.mp h with rfl | h
    · omega
    · have := le_sum h
      omega
/-- as many plates, heaps and uses as at the beginning -/
def Fit (s : PSt) : Prop := total s ≤ 1000 ∧ s.heaps.length ≤ 1000 ∧ s.uses.length ≤ 1000
theorem Fit.small {s : PSt} (h : Fit s) : Small s := by
  obtain ⟨h1, h2, h3⟩ := h
  unfold total at h1
  refine ⟨by omega, fun x hx => ?_, h2, h3⟩
  have : x.length ≤ (s.heaps.map List.length).sum := by
    have hm : x.length ∈ s.heaps.map List.length := List.mem_map.mpr ⟨x, hx, rfl⟩
    exact le_sum hm
  omega
theorem Fit.next {dd : List DayD} {ss : List PSt} {k : Int} (h : Fit (curSt ss)) : Fit (nextSt dd ss k) := by
  unfold Fit
  rw [next_total, next_heaps, next_uses]
  exact h
theorem fit0 {a b : Int} (h0 : 0 ≤ a) (h1 : a ≤ 10) (h2 : 0 ≤ b) (h3 : b ≤ 2) : Fit (st0 a b) := by
  unfold Fit total st0 rangeI
  dsimp only
  have : ((List.replicate b.toNat ([] : List Int)).map List.length).sum = 0 := by
    rw [List.map_replicate]
    simp
  rw [this, List.length_map, List.length_range, List.length_replicate, List.length_replicate]
  omega
/-- a property of a class, with its promise -/
structure PropA (P : Program) (w : World) (K : PySem.W.Frag) (mg : Str → Option Value) (base : Heap) (C : Addr) (n : Str) (g : Addr) (d : FuncData) (sp : Sp) : Prop where
  p : ∃ p, PropOf K C n p g
  b : Binds K d ["self"] []
  G : FnOk P w K mg base CX0 5 g d ["self"] sp
/-- the class Pile, as laws use it -/
structure PlA (P : Program) (w : World) (K : PySem.W.Frag) (mg : Str → Option Value) (base : Heap) (C CD CP CN CI CL fi fy : Addr) (di dy : FuncData) (g : Nat → Addr) (gd : Nat → FuncData) : Prop where
  PC : PlC K CP
  m : mg "Pile" = some (.ref CP)
  M : Mk K CP fi
  bi : Binds K di ["self", "rule"] []
  Gi : FnOk P w K mg base (L2.CX P w) 6 fi di ["self", "rule"] (spPInit K C CD CN CP)
  hy : Meth K CP "day" fy
  by_ : Binds K dy ["self", "number"] []
  Gy : FnOk P w K mg base (L2.CX P w) 6 fy dy ["self", "number"] (spDayP K C CD CP CI CL)
  st : PropA P w K mg base CP "standing" (g 0) (gd 0) (spPil CP fun ss => intsD (curSt ss).pile)
  he : PropA P w K mg base CP "heaps" (g 1) (gd 1) (spPil CP fun ss => heapsD (curSt ss).heaps)
  us : PropA P w K mg base CP "uses" (g 2) (gd 2) (spPil CP fun ss => intsD (curSt ss).uses)
  ch : PropA P w K mg base CP "changes" (g 3) (gd 3) (spPil CP fun ss => .int ((ss.length - 1 : Nat) : Int))
  le : PropA P w K mg base CP "lets" (g 4) (gd 4) (spPilR C CD CP fun ss _ dd => letsD (letsNow ss dd))
  ro : PropA P w K mg base CP "row" (g 5) (gd 5) (spPilR C CD CP fun ss rows dd => .str (rows.getD (1 + rowIx ss dd) ""))
section
variable {K : PySem.W.Frag} {σ : L2.St} {H : Hp} {C CD CP x r l dx p q dxr : Addr} {cs : List V} {ss : List PSt} {rows : List Str} {a b : Int} {ds : List V} {dd : List DayD} {ta te : TE} {E : XK}
theorem er_pil {g : List PSt → PyData} (ha : Ev ta σ H (.ref x)) (hp : PileK H CP x r l dx cs ss) (hn : 0 < ss.length) : EvR (tProp CP (spPil CP g) [] E ta) σ H (fun H' v => Dat H' v (g ss)) := fun H1 e Q k =>
  ha H1 e _ fun H2 e2 => ⟨x, dx, _, rfl, (hp.ext (e.trans e2)).ins, x, r, l, dx, cs, ss, rfl, hp.ext (e.trans e2), hn, fun v H' e' h => k v H' (e2.trans e') h⟩
theorem er_pilR {g : List PSt → List Str → List DayD → PyData} (ha : Ev ta σ H (.ref x)) (hp : PileK H CP x r l dx cs ss) (hn : 0 < ss.length) (hk : RuleK H C CD r p q dxr rows a b ds dd) : EvR (tProp CP (spPilR C CD CP g) [] E ta) σ H (fun H' v => Dat H' v (g ss rows dd)) := fun H1 e Q k =>
  ha H1 e _ fun H2 e2 => ⟨x, dx, _, rfl, (hp.ext (e.trans e2)).ins, x, r, l, dx, p, q, dxr, cs, ss, rows, a, b, ds, dd, rfl, hp.ext (e.trans e2), hn, hk.ext (e.trans e2), fun v H' e' h => k v H' (e2.trans e') h⟩
theorem er_dstr {s : Str} : EvR (tC (.str s)) σ H (fun H' v => Dat H' v (.str s)) := er_of ev_c fun _ _ => .str s
end
theorem strs_of {H : Hp} : ∀ {ns : List Str} {vs : List V}, Dats H vs (ns.map PyData.str) → vs = ns.map V.str
  | [], vs, h => by
    cases h
    rfl
  | n :: ns, vs, h => by
    cases h with
    | cons a r =>
      cases a
      rw [strs_of r]
      rfl
theorem pileF_day (r l : Addr) : (pileF r l).lookup ("day" : Str) = none := by
  have h1 : (("day" : Str) == "_rule") = false := by decide +kernel
  have h2 : (("day" : Str) == "_course") = false := by decide +kernel
  simp [pileF, List.lookup, h1, h2]
theorem pileF_undo (r l : Addr) : (pileF r l).lookup ("undo" : Str) = none := by
  have h1 : (("undo" : Str) == "_rule") = false := by decide +kernel
  have h2 : (("undo" : Str) == "_course") = false := by decide +kernel
  simp [pileF, List.lookup, h1, h2]
/-- a rule and its days -/
def dayList (rows : List Str) : List DayD := (rows.drop 1).map fun s => (dayOf s).getD dayNone
theorem dayList_ok {rows : List Str} (h : (rows.drop 1).all isDay = true) : (rows.drop 1).map dayOf = (dayList rows).map some := by
  unfold dayList
  rw [List.map_map]
  refine List.map_congr_left fun s hs => ?_
  have z := List.all_eq_true.mp h s hs
  obtain ⟨d, hd⟩ := Option.isSome_iff_exists.mp (show (dayOf s).isSome = true from z)
  show dayOf s = some ((dayOf s).getD dayNone)
  rw [hd]
  rfl
theorem RuleAt.toK {H : Hp} {C CD x : Addr} {rows : List Str} {a b : Int} (h : RuleAt H C CD x rows a b) (G : Good rows a b) (hd : (rows.drop 1).all isDay = true) : ∃ dx p q ds, RuleK H C CD x p q dx rows a b ds (dayList rows) := by
  obtain ⟨dx, p, q, ds, h1, h2, h3, h4⟩ := h
  refine ⟨dx, p, q, ds, h1, h2, h3, ?_, G, dayList_ok hd⟩
  rw [← dayList_ok hd]
  exact h4
end PW
namespace PW
open PySem PySem.Spec PyProof.Rows L2 Evl
/-! ### the spring -/
/-! ### the law's own draws: _law_spring, _law_draw, _law_of -/
abbrev sSpring : Stmt := top 71
abbrev sDraw : Stmt := top 72
abbrev sOf : Stmt := top 73
theorem scSpring : FnScope ["_law_cells", "_law_k", "_law_cell", "_law_mixed", "_law_number"] ["_law_cells", "_law_k"] (defScope sSpring) :=
  ⟨rfl, rfl, rfl, by decide +kernel, rfl, by decide +kernel, by decide +kernel⟩
theorem scDraw : FnScope ["_law_spring_here", "_law_size", "_law_digit", "_law_far", "_law_mixed"] ["_law_spring_here", "_law_size"] (defScope sDraw) :=
  ⟨rfl, rfl, rfl, by decide +kernel, rfl, by decide +kernel, by decide +kernel⟩
theorem scOf : FnScope ["_law_spring_here", "_law_menu"] ["_law_spring_here", "_law_menu"] (defScope sOf) :=
  ⟨rfl, rfl, rfl, by decide +kernel, rfl, by decide +kernel, by decide +kernel⟩
section
variable {P : Program} {w : World} {K : PySem.W.Frag} {mg : Str → Option Value} {base : Heap}
theorem ok_spring {f : Addr} {fd : FuncData} {j : Nat} (F : Fun K "_law_spring" "_law_spring" sSpring f fd) (B : Blt mg) :
    FnOk P w K mg base CX0 (j + 1) f fd ["_law_cells", "_law_k"] (spSpring K) := by
  refine F.ok scSpring (fun vs H Q E h => ?_) (fun cdv A outer s H vs Q E hr h => ?_)
  · obtain ⟨a, ns, k, rfl, _⟩ := h
    rfl
  · obtain ⟨a, ns, k, rfl, hS, hlen, hk, k0⟩ := h
    refine ⟨_, pss_cons (ps_set (i := 2) scSpring.nd rfl (.inl rfl) (pe_ifExp
        (pt_cmpR op_lt (pv 1) (pe_callB call_len_seq (by rfl) B.len PySem.boot_len (pa_cons (pv 0) pa_nil)) (nomark _))
        (pe_ix ix_list (pv 0) (pv 1) (fun _ _ => rfl)) (pe_op op_add (pe_op op_mul pe_int (pv 1)) pe_int)))
      (pss_cons (ps_set (i := 3) scSpring.nd rfl (.inl rfl) (pe_op op_add pe_int (pe_op op_mul pe_int (pv 1))))
      (pss_cons (ps_for PassesOwn.never rfl
        (pi_list (pe_op op_cat (pe_slice sl_list (pv 0) po_none (po_some pe_int)) (pe_lst (pa_cons (pv 2) pa_nil))))
        (pg_name (i := 4) scSpring.nd rfl (.inl rfl))
        (pss_one (ps_set (i := 3) scSpring.nd rfl (.inl rfl) (pe_op op_mod
          (pe_callTy call_int1 (by rfl) B.int PyProof.Rows.Boot.int (pa_cons (pe_op op_add (pe_op op_add (pe_op op_mul (pv 3) pe_int)
            (pe_callTy call_int1 (by rfl) B.int PyProof.Rows.Boot.int (pa_cons (pv 4) pa_nil))) (pe_op op_mul pe_int (pv 1))) pa_nil)) pe_int))))
      (pss_one (ps_ret (pe_lst (pa_cons (pe_ifExp (pw_or (pt_cmpR op_lt (pv 2) pe_int (nomark _))
          (pw_or1 (pt_cmpR op_ge (pv 2) (pe_op op_pow pe_int pe_int) (nomark _)))).pt
          (pe_callB call_abs (by rfl) B.abs (by decide +kernel) (pa_cons (pv 2) pa_nil)) pe_int) (pa_cons (pv 3) (pa_cons pe_int pa_nil)))))))), ?_⟩
    -- _law_cell
    obtain ⟨cell, hcell⟩ : ∃ c : Int, ∀ Q : VK, Q (.int c) H → (tIf (tTest (tOp (rI0 fun i j => .bl (decide (i < j))) (tVar 1)
        (tCB (fun xs H Q => ∃ p ys, xs = [.ref p] ∧ (SqL K H p ys ∨ SqT K H p ys) ∧ Q (.int ys.length) H) (tCons (tVar 0) tNil))))
        (tOp (rIxL K) (tVar 0) (tVar 1)) (tOp (rI0 fun i j => .int (i + j)) (tOp (rI CMul fun i j => .int (i * j)) (tC (.int 7)) (tVar 1)) (tC (.int 2))))
        [some (.ref a), some (.int k), none, none, none] H Q := by
      by_cases hkn : k < ns.length
      · refine ⟨ns[k], fun Q q => ?_⟩
        refine ⟨.int k, rfl, .ref a, rfl, a, _, rfl, .inl hS, _, _, rfl, rfl, _, rfl, ?_⟩
        rw [decide_eq_true (by rw [List.length_map]; omega)]
        refine iteT ⟨.ref a, rfl, .int k, rfl, a, _, (k : Int), .int ns[k], rfl, rfl, hS, atI_nat ?_, q⟩
        rw [List.getElem?_map, List.getElem?_eq_getElem hkn]
        rfl
      · refine ⟨7 * (k : Int) + 2, fun Q q => ?_⟩
        refine ⟨.int k, rfl, .ref a, rfl, a, _, rfl, .inl hS, _, _, rfl, rfl, _, rfl, ?_⟩
        rw [decide_eq_false (by rw [List.length_map]; omega)]
        exact iteF ⟨.int k, rfl, 7, (k : Int), rfl, rfl, .inl ⟨by decide, by decide⟩, _, _, rfl, rfl, q⟩
    refine hcell _ ?_
    -- _law_mixed
    refine ⟨.int k, rfl, 7919, (k : Int), rfl, rfl, .inl ⟨by decide, by decide⟩, _, _, rfl, rfl, ?_⟩
    -- the loop
    refine ⟨.ref a, rfl, 8, rfl, a, ns.map V.int, rfl, hS, fun p1 n1 => ?_⟩
    refine ⟨.int cell, rfl, by show 1 ≤ sizeLine; decide, fun p2 n2 => ?_⟩
    have e1 : Ex H (upd H p1 (.lst (cutV (ns.map V.int) none (some 8)))) := Ex.new n1
    have e2 := Ex.new (o := .lst [V.int cell]) n2
    obtain ⟨ms, hms, hml⟩ : ∃ ms : List Int, cutV (ns.map V.int) none (some 8) = ms.map V.int ∧ ms.length ≤ 8 := by
      refine ⟨ns.take 8, ?_, by rw [List.length_take]; omega⟩
      unfold cutV
      rw [show HT.sIx (ns.map V.int).length (ns.map V.int).length (some 8) = min 8 (ns.map V.int).length from HT.sIx_nat _ _ 8, HT.sIx_none]
      rw [List.drop_zero, Nat.sub_zero, List.map_take]
      apply List.ext_getElem?
      intro i
      simp only [List.getElem?_take]
      by_cases hi : i < 8
      · by_cases hj : i < (ns.map V.int).length
        · rw [if_pos (by omega), if_pos hi]
        · rw [if_neg (by omega), if_pos hi]
          exact (List.getElem?_eq_none (by omega)).symm
      · rw [if_neg (by omega), if_neg hi]
    refine ⟨p1, p2, _, [.int cell], rfl, rfl, e2 _ _ upd_same, upd_same, ?_, fun p3 n3 => ?_⟩
    · rw [hms, List.length_map]
      show ms.length + 1 ≤ sizeLine
      exact Nat.le_trans (by omega) (show 9 ≤ sizeLine by decide)
    have e3 := Ex.new (o := .lst (cutV (ns.map V.int) none (some 8) ++ [V.int cell])) n3
    have eH := (e1.trans e2).trans e3
    have eL : cutV (ns.map V.int) none (some 8) ++ [V.int cell] = (ms ++ [cell]).map V.int := by rw [hms]; simp
    have h3 : (upd (upd (upd H p1 (.lst (cutV (ns.map V.int) none (some 8)))) p2 (.lst [.int cell])) p3
        (.lst (cutV (ns.map V.int) none (some 8) ++ [V.int cell]))) p3 = some (.lst ((ms ++ [cell]).map V.int)) := by rw [← eL]; exact upd_same
    refine ⟨p3, rfl, ⟨_, sq_of h3⟩, for_list (K := K) (a := p3) (xs := (ms ++ [cell]).map V.int)
      (fun i σ H' => ∃ (m : Int) (y : Option V), σ = [some (.ref a), some (.int k), some (.int cell), some (.int m), y] ∧ Ex H H' ∧
        H' p3 = some (.lst ((ms ++ [cell]).map V.int))) ⟨_, none, rfl, eH, h3⟩ (fun i σ H' _ ⟨_, _, _, _, q⟩ => sq_of q) ?_ ?_⟩
    · rintro i y σ H' hi ⟨m, yo, rfl, ex, q⟩
      obtain ⟨z, rfl⟩ : ∃ z, y = V.int z := by
        rw [List.getElem?_map] at hi
        obtain ⟨z, _, rfl⟩ := Option.map_eq_some_iff.mp hi
        exact ⟨z, rfl⟩
      refine ⟨.int m, rfl, m, 48271, rfl, rfl, .inr ⟨by decide, by decide⟩, ?_⟩
      refine ⟨.int z, rfl, .inl ⟨z, rfl, _, _, rfl, rfl, ?_⟩⟩
      refine ⟨.int k, rfl, 11, (k : Int), rfl, rfl, .inl ⟨by decide, by decide⟩, _, _, rfl, rfl, .inl ⟨_, rfl, ?_⟩⟩
      refine ⟨_, 2147483647, rfl, rfl, (by show (0 : Int) < 2147483647; decide), ?_⟩
      exact ⟨_, _, rfl, ex, q⟩
    · rintro σ H' ⟨m, yo, rfl, ex, q⟩
      -- return [.., .., 0]
      have done : ∀ (l : Int), ∀ p, H' p = none → Q (.ref p) (upd H' p (.lst [.int l, .int m, .int 0])) := fun l p n =>
        k0 p _ (fresh_back ex n) (ex.trans (Ex.new n)) ⟨l, m, 0, upd_same⟩
      have abs_ : ∀ c : Bool, c = true → ∃ i, [V.int cell] = [.int i] ∧ True := fun _ _ => ⟨_, rfl, trivial⟩
      refine ⟨.int cell, rfl, cell, 0, rfl, rfl, _, rfl, ?_⟩
      by_cases h1 : cell < 0
      · rw [decide_eq_true h1]
        exact ⟨.int cell, rfl, cell, rfl, .int m, rfl, by show 3 ≤ sizeLine; decide, done _⟩
      · rw [decide_eq_false h1]
        refine iteF ⟨.int cell, rfl, 10, 18, rfl, rfl, ⟨by decide, by decide, by decide⟩, cell, _, rfl, rfl, _, rfl, ?_⟩
        by_cases h2 : (10 : Int) ^ 18 ≤ cell
        · rw [show decide ((10 : Int) ^ Int.toNat 18 ≤ cell) = true from decide_eq_true h2]
          exact ⟨.int cell, rfl, cell, rfl, .int m, rfl, by show 3 ≤ sizeLine; decide, done _⟩
        · rw [show decide ((10 : Int) ^ Int.toNat 18 ≤ cell) = false from decide_eq_false h2]
          exact ⟨.int m, rfl, by show 3 ≤ sizeLine; decide, done 0⟩

theorem ok_draw {f : Addr} {fd : FuncData} {j : Nat} (F : Fun K "_law_draw" "_law_draw" sDraw f fd) (B : Blt mg) :
    FnOk P w K mg base CX0 (j + 1) f fd ["_law_spring_here", "_law_size"] spDraw := by
  refine F.ok scDraw (fun vs H Q E h => ?_) (fun cdv A outer s H vs Q E hr h => ?_)
  · obtain ⟨p, n, rfl, _⟩ := h
    rfl
  · obtain ⟨p, n, rfl, n0, n1, ⟨l, m, t, hp⟩, k⟩ := h
    refine ⟨_, pss_cons (ps_asg (pe_op op_add (pe_ix ix_list (pv 0) pe_int (fun _ _ => rfl)) pe_int) (pg_sub (pv 0) pe_int set_list))
      (pss_cons (ps_asg (pe_op op_mod (pe_callTy call_int1 (by rfl) B.int PyProof.Rows.Boot.int (pa_cons (pe_op op_add (pe_op op_add
          (pe_op op_mul (pe_ix ix_list (pv 0) pe_int (fun _ _ => rfl)) pe_int)
          (pe_op op_mul pe_int (pe_ix ix_list (pv 0) pe_int (fun _ _ => rfl)))) pe_int) pa_nil)) pe_int) (pg_sub (pv 0) pe_int set_list))
      (pss_cons (ps_if (pt_cmpR op_gt (pe_ix ix_list (pv 0) pe_int (fun _ _ => rfl)) pe_int (nomark _))
        (pss_cons (ps_asg (pe_callB call_divmod (by rfl) B.divmod (by decide +kernel) (pa_cons (pe_ix ix_list (pv 0) pe_int (fun _ _ => rfl)) (pa_cons (pv 1) pa_nil)))
            (pg_tup rfl (pgs_cons (pg_sub (pv 0) pe_int set_list) (pgs_cons (pg_name (i := 2) scDraw.nd rfl (.inl rfl)) pgs_nil))))
          (pss_one (ps_ret (pv 2)))) pss_nil)
      (pss_cons (ps_set (i := 3) scDraw.nd rfl (.inl rfl) (pe_op op_add (pe_ix ix_list (pv 0) pe_int (fun _ _ => rfl)) pe_int))
      (pss_cons (ps_set (i := 4) scDraw.nd rfl (.inl rfl) (pe_op op_mod (pe_callTy call_int1 (by rfl) B.int PyProof.Rows.Boot.int
          (pa_cons (pe_op op_add (pe_op op_mul (pv 3) (pe_ix ix_list (pv 0) pe_int (fun _ _ => rfl))) (pe_ix ix_list (pv 0) pe_int (fun _ _ => rfl))) pa_nil)) pe_int))
      (pss_one (ps_ret (pe_op op_mod (pe_callTy call_int1 (by rfl) B.int PyProof.Rows.Boot.int (pa_cons (pe_op op_fdiv (pv 4) pe_int) pa_nil)) (pv 1)))))))), ?_⟩
    -- item 2
    refine ⟨.ref p, rfl, p, _, 2, .int t, rfl, rfl, sq_of hp, rfl, t, 1, rfl, rfl, .ref p, rfl, p, _, 2, 2, rfl, rfl, hp, rfl, ?_⟩
    have h1 : (upd H p (.lst ([V.int l, V.int m, V.int t].set 2 (.int (t + 1))))) p = some (.lst [.int l, .int m, .int (t + 1)]) := upd_same
    -- item 1
    refine ⟨.ref p, rfl, p, _, 1, .int m, rfl, rfl, sq_of h1, rfl, m, 69621, rfl, rfl, .inr ⟨by decide, by decide⟩, ?_⟩
    refine ⟨.ref p, rfl, p, _, 2, .int (t + 1), rfl, rfl, sq_of h1, rfl, 40503, t + 1, rfl, rfl, .inl ⟨by decide, by decide⟩, _, _, rfl, rfl, _, 1, rfl, rfl, .inl ⟨_, rfl, ?_⟩⟩
    refine ⟨_, 2147483647, rfl, rfl, (by show (0 : Int) < 2147483647; decide), .ref p, rfl, p, _, 1, 1, rfl, rfl, h1, rfl, ?_⟩
    obtain ⟨m', hm⟩ : ∃ m', m' = (m * 69621 + 40503 * (t + 1) + 1) % 2147483647 := ⟨_, rfl⟩
    have hm0 : 0 ≤ m' := hm ▸ Int.emod_nonneg _ (by decide)
    have hm1 : m' < 2147483647 := hm ▸ Int.emod_lt_of_pos _ (by decide)
    obtain ⟨H2, hH2⟩ : ∃ H2, H2 = upd (upd H p (.lst ([V.int l, V.int m, V.int t].set 2 (.int (t + 1))))) p
      (.lst ([V.int l, V.int m, V.int (t + 1)].set 1 (.int ((m * 69621 + 40503 * (t + 1) + 1) % 2147483647)))) := ⟨_, rfl⟩
    have h2 : H2 p = some (.lst [.int l, .int m', .int (t + 1)]) := by rw [hH2, hm]; exact upd_same
    have but2 : But p H H2 := fun b o ne e => by rw [hH2]; exact (upd_ne ne).trans ((upd_ne ne).trans e)
    refine hH2 ▸ ?_
    -- if
    refine ⟨.ref p, rfl, p, _, 0, .int l, rfl, rfl, sq_of h2, rfl, l, 0, rfl, rfl, _, rfl, ?_⟩
    refine ite2 (fun _ => ?_) (fun _ => ?_)
    · refine ⟨.ref p, rfl, p, _, 0, .int l, rfl, rfl, sq_of h2, rfl, .int n, rfl, l, n, rfl, ⟨n0, by omega⟩, fun q nq => ?_⟩
      have nqp : p ≠ q := ne_of_none h2 nq
      have h3 : (upd H2 q (.tup [.int (l / n), .int (l % n)])) p = some (.lst [.int l, .int m', .int (t + 1)]) :=
        (upd_ne nqp).trans h2
      refine ⟨q, [.int (l / n), .int (l % n)], rfl, st_of upd_same, rfl, .int (l / n), [.int (l % n)], rfl, .ref p, rfl, p, _, 0, 0, rfl, rfl, h3, rfl, ?_⟩
      refine ⟨.int (l % n), [], rfl, rfl, ?_⟩
      refine ⟨.int (l % n), rfl, k (l % n) _ (Int.emod_nonneg _ (by omega)) (Int.emod_lt_of_pos _ n0) (fun b o ne e => ?_) ⟨l / n, m', t + 1, upd_same⟩⟩
      have nb : b ≠ q := ne_of_none (but2 b o ne e) nq
      exact (upd_ne ne).trans ((upd_ne nb).trans (but2 b o ne e))
    · refine ⟨.ref p, rfl, p, _, 1, .int m', rfl, rfl, sq_of h2, rfl, m', 12345, rfl, rfl, ?_⟩
      refine ⟨.int (m' + 12345), rfl, .ref p, rfl, p, _, 1, .int m', rfl, rfl, sq_of h2, rfl, m' + 12345, m', rfl, rfl, .inr ⟨by omega, by omega⟩, ?_⟩
      refine ⟨.ref p, rfl, p, _, 2, .int (t + 1), rfl, rfl, sq_of h2, rfl, _, t + 1, rfl, rfl, .inl ⟨_, rfl, ?_⟩⟩
      refine ⟨_, 2147483629, rfl, rfl, (by show (0 : Int) < 2147483629; decide), ?_⟩
      refine ⟨_, rfl, _, 256, rfl, rfl, ⟨by decide, by decide⟩, .inl ⟨_, rfl, .int n, rfl, _, n, rfl, rfl, n0, ?_⟩⟩
      exact k _ _ (Int.emod_nonneg _ (by omega)) (Int.emod_lt_of_pos _ n0) but2 ⟨l, m', t + 1, h2⟩
theorem ok_of {f fD : Addr} {fd fdD : FuncData} {j : Nat} (F : Fun K "_law_of" "_law_of" sOf f fd) (B : Blt mg)
    (FD : Fun K "_law_draw" "_law_draw" sDraw fD fdD) (bD : Binds K fdD ["_law_spring_here", "_law_size"] []) (gD : mg "_law_draw" = some (.ref fD)) :
    FnOk P w K mg base CX0 (j + 2) f fd ["_law_spring_here", "_law_menu"] (spOf K) := by
  have GD : FnOk P w K mg base CX0 (j + 1) fD fdD ["_law_spring_here", "_law_size"] spDraw := ok_draw FD B
  refine F.ok scOf (fun vs H Q E h => ?_) (fun cdv A outer s H vs Q E hr h => ?_)
  · obtain ⟨p, a, xs, rfl, _⟩ := h
    rfl
  · obtain ⟨p, a, xs, rfl, hS, ne, l0, l1, sp, k⟩ := h
    refine ⟨_, pss_one (ps_ret (pe_ix ix_list (pv 1) (pe_call GD hr (by rfl) gD FD.kp bD .nil pass0 (pa_cons (pv 0) (pa_cons
      (pe_callB call_len_seq (by rfl) B.len PySem.boot_len (pa_cons (pv 1) pa_nil)) pa_nil))) (fun _ _ => rfl))), ?_⟩
    refine ⟨.ref a, rfl, .ref p, rfl, .ref a, rfl, a, xs, rfl, .inl hS, p, (xs.length : Int), rfl, by omega, by omega, sp, fun d H' d0 d1 but sp' => ?_⟩
    obtain ⟨i, rfl⟩ : ∃ i : Nat, d = (i : Int) := ⟨d.toNat, by omega⟩
    have hi : i < xs.length := by omega
    refine ⟨a, xs, (i : Int), xs[i], rfl, rfl, ?_, atI_nat (List.getElem?_eq_getElem hi), k _ _ (List.getElem_mem hi) but sp'⟩
    rcases hS with (h | ⟨o, h⟩) | h
    · exact .inl (.inl (but _ _ ne h))
    · exact .inl (.inr ⟨o, but _ _ ne h⟩)
    · exact .inr h
end
theorem small_num {n : Int} (h0 : 0 ≤ n) (h1 : n < 100) : n.natAbs.log2 < 1920 ∧ (txt n).length ≤ 10 := by
  have z : ∀ k, k < 100 → ((k : Nat) : Int).natAbs.log2 < 1920 ∧ (txt ((k : Nat) : Int)).length ≤ 10 := by decide +kernel
  have e : ((n.toNat : Nat) : Int) = n := by omega
  have y := z n.toNat (by omega)
  rwa [e] at y
section
variable {K : PySem.W.Frag} {σ : L2.St} {H : Hp} {p : Addr} {Q : VK} {E : XK}
end
/-- the defs of the law's draws -/
structure Drw (K : PySem.W.Frag) (mg : Str → Option Value) (fD fO : Addr) (dD dO : FuncData) : Prop where
  D : Fun K "_law_draw" "_law_draw" sDraw fD dD
  bD : Binds K dD ["_law_spring_here", "_law_size"] []
  mD : mg "_law_draw" = some (.ref fD)
  O : Fun K "_law_of" "_law_of" sOf fO dO
  bO : Binds K dO ["_law_spring_here", "_law_menu"] []
  mO : mg "_law_of" = some (.ref fO)
end PW
namespace PW
open PySem PySem.Spec PyProof.Rows L2 Evl
/-! ### draws that tell scalars -/
section
variable {K : PySem.W.Frag} {σ : L2.St} {p : Addr} {ta tb te : TE} {t : TA} {A B : Int → Prop} {S T : Str → Prop} {R : V → Prop} {U : List V → Prop}
theorem es_txt (ha : EvS ta σ p (isI A)) (hA : ∀ i, A i → 0 ≤ i ∧ i < 100) : EvS (tCB (fun xs H Q => ∃ i, xs = [.int i] ∧ i.natAbs.log2 < 1920 ∧ Q (.str (toString i)) H) (tCons ta tNil)) σ p (isS fun s => ∃ i, A i ∧ s = txt i) := fun H1 sp Q q =>
  ha H1 sp _ fun v H2 b2 s2 ⟨i, ev, hi⟩ => ⟨i, by rw [ev], (small_num (hA i hi).1 (hA i hi).2).1, q _ H2 b2 s2 ⟨txt i, rfl, i, hi, rfl⟩⟩
theorem es_cat (ha : EvS ta σ p (isS S)) (hb : EvS tb σ p (isS T)) (hS : ∀ s, S s → s.length ≤ 1000) (hT : ∀ s, T s → s.length ≤ 1000) : EvS (tOp (fun x y H Q => ∃ i j, x = .str i ∧ y = .str j ∧ i.length + j.length ≤ sizeLine ∧ Q (.str (i ++ j)) H) ta tb) σ p (isS fun s => ∃ a b, S a ∧ T b ∧ s = a ++ b) := fun H1 sp Q q =>
  ha H1 sp _ fun v H2 b2 s2 ⟨a, ev, hi⟩ => hb H2 s2 _ fun u H3 b3 s3 ⟨b, eu, hj⟩ => ⟨a, b, ev, eu, sz_of (by have := hS a hi; have := hT b hj; omega), q _ H3 (b2.trans b3) s3 ⟨a ++ b, rfl, a, b, hi, hj, rfl⟩⟩
theorem es_strL {s : Str} {n : Nat} (h : s.length ≤ n) : EvS (tC (.str s)) σ p (isS fun s => s.length ≤ n) := es_imp es_str fun v ⟨t, e1, e2⟩ => ⟨t, e1, by rw [e2]; exact h⟩
theorem es_txtL (ha : EvS ta σ p (isI A)) (hA : ∀ i, A i → 0 ≤ i ∧ i < 100) : EvS (tCB (fun xs H Q => ∃ i, xs = [.int i] ∧ i.natAbs.log2 < 1920 ∧ Q (.str (toString i)) H) (tCons ta tNil)) σ p (isS fun s => s.length ≤ 10) :=
  es_imp (es_txt ha hA) fun v ⟨t, e1, i, hi, e2⟩ => ⟨t, e1, by rw [e2]; exact (small_num (hA i hi).1 (hA i hi).2).2⟩
theorem es_catL {a b : Nat} (hab : a + b ≤ 1000) (ha : EvS ta σ p (isS fun s => s.length ≤ a)) (hb : EvS tb σ p (isS fun s => s.length ≤ b)) : EvS (tOp (fun x y H Q => ∃ i j, x = .str i ∧ y = .str j ∧ i.length + j.length ≤ sizeLine ∧ Q (.str (i ++ j)) H) ta tb) σ p (isS fun s => s.length ≤ a + b) :=
  es_imp (es_cat ha hb (fun s h => by omega) (fun s h => by omega)) fun v ⟨s, e1, x, y, hx, hy, e2⟩ => ⟨s, e1, by rw [e2]; show (x ++ y).length ≤ a + b; rw [strLen_append]; omega⟩
end
/-! ### the menus -/
def mkTake (l m : Int) (wh k : Str) : Str := "take " ++ txt l ++ " to " ++ txt m ++ " back " ++ wh ++ " " ++ k
def nineW : List Int := [1, 2, 3, 4, 5, 6, 7, 8, 9]
def wheresM : List Str := (["top", "bottom"] : List Str) ++ nineW.map fun n => "under " ++ txt n
def keptW : List Str := ["kept", "turned"]
def takesM : List Str := ([0, 1, 2] : List Int).flatMap fun l => ([0, 1, 2, 3] : List Int).flatMap fun d => wheresM.flatMap fun wh => keptW.map fun k => mkTake l (l + d) wh k
def cutsM : List Str := nineW.map fun n => "cut " ++ txt n
def daysM : List Str := (["turn", "rest"] : List Str) ++ cutsM ++ takesM
def mkHead (m a : Int) : Str := "plates " ++ txt m ++ " away " ++ txt a
def headsM : List Str := ([2, 3, 4, 5, 6, 7, 8, 9, 10] : List Int).flatMap fun m => ([0, 1, 2] : List Int).map fun a => mkHead m a
def noNl (s : Str) : Bool := !(TL.tl s).contains 10
theorem noNl_free {s : Str} (h : noNl s = true) : 10 ∉ TL.tl s := fun z => by
  unfold noNl at h
  have : (TL.tl s).contains 10 = true := List.contains_iff_mem.mpr z
  rw [this] at h
  cases h
theorem back_of {ss : List Str} (h2 : 2 ≤ ss.length) (h : ss.all noNl = true) : Txt.split (Txt.join "\n" ss) "\n" = ss := by
  refine TL.split_join (y := "\n") (s := 10) (S := []) rfl (by decide +kernel) (fun z => ?_) (fun x hx => noNl_free (List.all_eq_true.mp h x hx))
  rw [z] at h2
  simp at h2
theorem Good.joined {ss : List Str} {a b : Int} (G : Good ss a b) : (Txt.join "\n" ss).length ≤ 100000 := by
  have h := StrLaws.join_length_le "\n" ss
  have s := sum_le G.lens
  have g := G.seven
  have one : (Str.ofString "\n").length = 1 := rfl
  rw [TL.join_eq]
  rw [one] at h
  omega
/-- the words of a day's row, beside what it tells -/
def wordsOk (ws : List Str) (d : DayD) : Bool := decide (ws.getD 0 "" = d.word) && (decide (1 ≤ ws.length) && (ws.all (fun x => decide (x.length ≤ 640)) && (
  if d.word = "take" then decide (7 ≤ ws.length) && (decide (PySem.intText? (ws.getD 1 "") = some d.least ∧ PySem.intText? (ws.getD 3 "") = some d.most ∧ 0 ≤ d.most) && (decide (d.turned = decide (ws.getD (ws.length - 1) "" = "turned")) && (decide (ws.getD 5 "" = "top" ∧ d.depth = 0) || (decide (ws.getD 5 "" = "bottom" ∧ d.depth = 10) || decide (ws.getD 5 "" = "under" ∧ PySem.intText? (ws.getD 6 "") = some d.depth ∧ 1 ≤ d.depth ∧ d.depth ≤ 9)))))
  else decide (d.least = 0 ∧ d.most = 0) && (if d.word = "cut" then decide (2 ≤ ws.length ∧ PySem.intText? (ws.getD 1 "") = some d.depth) else true))))
def rowOk (s : Str) : Bool := match dayOf s with
  | none => false
  | some d => fineW s && (noNl s && wordsOk (Txt.split s " ") d)
def headOk (s : Str) : Bool := match firstOf s with
  | none => false
  | some (a, b) => fineW s && (noNl s && (decide (PySem.intText? ((Txt.split s " ").getD 1 "") = some a) && (decide (PySem.intText? ((Txt.split s " ").getD 3 "") = some b) && (decide ((Txt.split s " ").length = 4) && ((Txt.split s " ").all (fun x => decide (x.length ≤ 640)) && decide (0 ≤ b))))))
def takesLD (l d : Int) : List Str := wheresM.flatMap fun wh => keptW.map fun k => mkTake l (l + d) wh k
theorem t00 : (takesLD 0 0).all rowOk = true := by decide +kernel
theorem t01 : (takesLD 0 1).all rowOk = true := by decide +kernel
theorem t02 : (takesLD 0 2).all rowOk = true := by decide +kernel
theorem t03 : (takesLD 0 3).all rowOk = true := by decide +kernel
theorem t10 : (takesLD 1 0).all rowOk = true := by decide +kernel
theorem t11 : (takesLD 1 1).all rowOk = true := by decide +kernel
theorem t12 : (takesLD 1 2).all rowOk = true := by decide +kernel
theorem t13 : (takesLD 1 3).all rowOk = true := by decide +kernel
theorem t20 : (takesLD 2 0).all rowOk = true := by decide +kernel
theorem t21 : (takesLD 2 1).all rowOk = true := by decide +kernel
theorem t22 : (takesLD 2 2).all rowOk = true := by decide +kernel
theorem t23 : (takesLD 2 3).all rowOk = true := by decide +kernel
theorem few_ok : ((["turn", "rest"] : List Str) ++ cutsM).all rowOk = true := by decide +kernel
theorem takes_chunk {l d : Int} (hl : l ∈ ([0, 1, 2] : List Int)) (hd : d ∈ ([0, 1, 2, 3] : List Int)) : (takesLD l d).all rowOk = true := by
  simp only [List.mem_cons, List.mem_nil_iff, or_false] at hl hd
  rcases hl with rfl | rfl | rfl <;> rcases hd with rfl | rfl | rfl | rfl
  · exact t00
  · exact t01
  · exact t02
  · exact t03
  · exact t10
  · exact t11
  · exact t12
  · exact t13
  · exact t20
  · exact t21
  · exact t22
  · exact t23
theorem daysM_ok : daysM.all rowOk = true := List.all_eq_true.mpr fun s hs => by
  rcases List.mem_append.mp hs with h | h
  · exact List.all_eq_true.mp few_ok s h
  · obtain ⟨l, hl, h⟩ := List.mem_flatMap.mp h
    obtain ⟨d, hd, h⟩ := List.mem_flatMap.mp h
    exact List.all_eq_true.mp (takes_chunk hl hd) s h
theorem headsM_ok : headsM.all headOk = true := by decide +kernel
structure RowsM (ss : List Str) : Prop where
  two : 2 ≤ ss.length
  six : ss.length ≤ 6
  head : ss.getD 0 "" ∈ headsM
  days : ∀ s ∈ ss.drop 1, s ∈ daysM
theorem RowsM.day {ss : List Str} (r : RowsM ss) {s : Str} (h : s ∈ ss.drop 1) : ∃ d, dayOf s = some d ∧ fineW s = true ∧ noNl s = true ∧ wordsOk (Txt.split s " ") d = true := by
  have z := List.all_eq_true.mp daysM_ok _ (r.days s h)
  unfold rowOk at z
  cases hd : dayOf s with
  | none => rw [hd] at z; cases z
  | some d =>
    rw [hd] at z
    simp only [Bool.and_eq_true] at z
    exact ⟨d, rfl, z.1, z.2.1, z.2.2⟩
/-- what the first row tells, in words too -/
structure HeadW (s : Str) (a b : Int) : Prop where
  f : firstOf s = some (a, b)
  fine : fineW s = true
  nl : noNl s = true
  w1 : PySem.intText? ((Txt.split s " ").getD 1 "") = some a
  w3 : PySem.intText? ((Txt.split s " ").getD 3 "") = some b
  four : (Txt.split s " ").length = 4
  short : ∀ x ∈ Txt.split s " ", x.length ≤ 640
  late : 0 ≤ b
theorem RowsM.headW {ss : List Str} (r : RowsM ss) : ∃ a b, HeadW (ss.getD 0 "") a b := by
  have z := List.all_eq_true.mp headsM_ok _ r.head
  unfold headOk at z
  cases hd : firstOf (ss.getD 0 "") with
  | none => rw [hd] at z; cases z
  | some ab =>
    obtain ⟨a, b⟩ := ab
    rw [hd] at z
    simp only [Bool.and_eq_true, decide_eq_true_eq] at z
    obtain ⟨z1, z2, z3, z4, z5, z6, z7⟩ := z
    exact ⟨a, b, hd, z1, z2, z3, z4, z5, fun x hx => by simpa using List.all_eq_true.mp z6 x hx, z7⟩
theorem mem_parts {ss : List Str} (h : 2 ≤ ss.length) {x : Str} (hx : x ∈ ss) : x = ss.getD 0 "" ∨ x ∈ ss.drop 1 := by
  match ss, h with
  | a :: r, _ =>
    rcases List.mem_cons.mp hx with rfl | h2
    · exact .inl rfl
    · exact .inr h2
theorem drop_get {ss : List Str} {i : Nat} (h1 : 1 ≤ i) (h2 : i < ss.length) : ss.getD i "" ∈ ss.drop 1 := by
  rw [List.getD_eq_getElem?_getD, List.getElem?_eq_getElem h2]
  refine List.mem_iff_getElem?.mpr ⟨i - 1, ?_⟩
  rw [List.getElem?_drop, show 1 + (i - 1) = i by omega, List.getElem?_eq_getElem h2]
  rfl
theorem RowsM.good {ss : List Str} (r : RowsM ss) {a b : Int} (hw : HeadW (ss.getD 0 "") a b) : Good ss a b ∧ (ss.drop 1).all isDay = true ∧ Txt.split (Txt.join "\n" ss) "\n" = ss := by
  have g2 := r.two
  have g6 := r.six
  refine ⟨⟨g2, by omega, hw.f, fun x hx => ?_, fun i i1 i2 => ?_⟩, List.all_eq_true.mpr fun s hs => ?_, back_of g2 (List.all_eq_true.mpr fun x hx => ?_)⟩
  · rcases mem_parts g2 hx with rfl | h
    · exact hw.fine
    · obtain ⟨d, h1, h2, _⟩ := r.day h
      exact h2
  · obtain ⟨d, h1, _⟩ := r.day (drop_get i1 i2)
    unfold isDay
    rw [h1]
    rfl
  · obtain ⟨d, h1, _⟩ := r.day hs
    unfold isDay
    rw [h1]
    rfl
  · rcases mem_parts g2 hx with rfl | h
    · exact hw.nl
    · obtain ⟨d, _, _, h3, _⟩ := r.day h
      exact h3

/-- a day's words: what they tell -/
structure Words (ws : List Str) (d : DayD) : Prop where
  w0 : ws.getD 0 "" = d.word
  one : 1 ≤ ws.length
  short : ∀ x ∈ ws, x.length ≤ 640
  cut : d.word = "cut" → 2 ≤ ws.length ∧ PySem.intText? (ws.getD 1 "") = some d.depth
  rest : d.word ≠ "take" → d.least = 0 ∧ d.most = 0
  take : d.word = "take" → 7 ≤ ws.length ∧ (PySem.intText? (ws.getD 1 "") = some d.least ∧ PySem.intText? (ws.getD 3 "") = some d.most ∧ 0 ≤ d.most) ∧ d.turned = decide (ws.getD (ws.length - 1) "" = "turned") ∧
    ((ws.getD 5 "" = "top" ∧ d.depth = 0) ∨ (ws.getD 5 "" = "bottom" ∧ d.depth = 10) ∨ (ws.getD 5 "" = "under" ∧ PySem.intText? (ws.getD 6 "") = some d.depth ∧ 1 ≤ d.depth ∧ d.depth ≤ 9))
theorem words_of {ws : List Str} {d : DayD} (h : wordsOk ws d = true) : Words ws d := by
  unfold wordsOk at h
  simp only [Bool.and_eq_true, decide_eq_true_eq] at h
  obtain ⟨h1, h2, h3, h4⟩ := h
  refine ⟨h1, h2, fun x hx => by simpa using List.all_eq_true.mp h3 x hx, fun z => ?_, fun z => ?_, fun z => ?_⟩
  · rw [if_neg (by rw [z]; decide), if_pos z] at h4
    simp only [Bool.and_eq_true, decide_eq_true_eq] at h4
    exact h4.2
  · rw [if_neg z] at h4
    simp only [Bool.and_eq_true, decide_eq_true_eq] at h4
    exact h4.1
  · rw [if_pos z] at h4
    simp only [Bool.and_eq_true, Bool.or_eq_true, decide_eq_true_eq] at h4
    exact h4
/-- the row of a day, also of one before the first -/
def rowOf (ss : List Str) (n : Int) : Str := ss.getD (1 + (n % ((ss.length - 1 : Nat) : Int)).toNat) ""
def dAt (dd : List DayD) (n : Int) : DayD := dd.getD (n % (dd.length : Int)).toNat dayNone
theorem dayList_len (ss : List Str) : (dayList ss).length = ss.length - 1 := by
  unfold dayList
  rw [List.length_map, List.length_drop]
theorem RowsM.words {ss : List Str} (r : RowsM ss) (n : Int) : Words (Txt.split (rowOf ss n) " ") (dAt (dayList ss) n) ∧ dayOf (rowOf ss n) = some (dAt (dayList ss) n) := by
  have g2 := r.two
  have m0 : (0 : Int) < ((ss.length - 1 : Nat) : Int) := by omega
  have r0 := Int.emod_nonneg n (show ((ss.length - 1 : Nat) : Int) ≠ 0 by omega)
  have r1 := Int.emod_lt_of_pos n m0
  obtain ⟨k, hk⟩ : ∃ k : Nat, k = (n % ((ss.length - 1 : Nat) : Int)).toNat := ⟨_, rfl⟩
  have lt : 1 + k < ss.length := by omega
  obtain ⟨d, h1, h2, h3, h4⟩ := r.day (drop_get (i := 1 + k) (by omega) lt)
  have e1 : rowOf ss n = ss.getD (1 + k) "" := by rw [rowOf, ← hk]
  have e2 : dAt (dayList ss) n = d := by
    unfold dAt
    rw [dayList_len, ← hk]
    unfold dayList
    have lt2 : k < (ss.drop 1).length := by rw [List.length_drop]; omega
    have e3 : (ss.drop 1)[k]? = ss[1 + k]? := List.getElem?_drop
    have e4 : ss[1 + k]? = some (ss.getD (1 + k) "") := by rw [List.getD_eq_getElem?_getD, List.getElem?_eq_getElem lt]; rfl
    rw [List.getD_eq_getElem?_getD, List.getElem?_map, e3, e4]
    show (dayOf (ss.getD (1 + k) "")).getD dayNone = d
    rw [h1]
    rfl
  rw [e1, e2]
  exact ⟨words_of h4, h1⟩
theorem RowsM.bound {ss : List Str} (r : RowsM ss) (n : Int) : 0 ≤ (dAt (dayList ss) n).least ∧ 0 ≤ (dAt (dayList ss) n).depth ∧ (dAt (dayList ss) n).least ≤ 6 ∧ (dAt (dayList ss) n).most ≤ 6 ∧ (dAt (dayList ss) n).depth ≤ 10 := inBounds (r.words n).2
end PW
namespace PW
open PySem PySem.Spec PyProof.Rows L2 Evl
def spPilN (CP : Addr) (R : List PSt → Hp → V → Prop) : Sp := fun vs H Q _ => ∃ (x r l dx : Addr) (cs : List V) (ss : List PSt), vs = [.ref x] ∧ PileK H CP x r l dx cs ss ∧ 0 < ss.length ∧ ∀ v H', Ex H H' → R ss H' v → Q v H'
def standN (ss : List PSt) (H : Hp) (v : V) : Prop := IsN ((curSt ss).pile.map V.int) H v
def heapN (ss : List PSt) (H : Hp) (v : V) : Prop := ∃ w hv, v = .ref w ∧ Rd H w (.tup hv) ∧ IsNs H hv (curSt ss).heaps
section
variable {P : Program} {w : World} {K : PySem.W.Frag} {mg : Str → Option Value} {base : Heap} {CP f : Addr} {fd : FuncData} {j : Nat}
theorem ok_pstN (F : Fun K "standing" "Pile.standing" sPSt f fd) (PC : PlC K CP) : FnOk P w K mg base CX0 (j + 1) f fd ["self"] (spPilN CP standN) := by
  refine F.ok scPSt (fun vs H Q E h => ?_) (fun cdv A outer s H vs Q E hr h => ?_)
  · obtain ⟨x, r, l, dx, cs, ss, rfl, _⟩ := h
    rfl
  · obtain ⟨x, r, l, dx, cs, ss, rfl, hp, hn, k⟩ := h
    obtain ⟨t, w_, u, z, hv, hat, ht, hu, hw, hh, hz⟩ := hp.curN hn
    exact ⟨_, (pss_one (ps_ret (pe_ix ix_tup (pe_ix ix_list (pe_fld (pv 0) rfl) (pe_un un_neg pe_int) (fun _ _ => rfl)) pe_int (fun _ _ => rfl)))), s_ret (ev_ixQ (eq_of (ev_last PC hp rfl hat) ht) ev_c (atI_nat (j := 0) rfl)) fun H1 e1 => k _ H1 e1 (isN_mono _ _ _ _ e1 hu)⟩
theorem ok_pheN (F : Fun K "heaps" "Pile.heaps" sPHe f fd) (PC : PlC K CP) : FnOk P w K mg base CX0 (j + 1) f fd ["self"] (spPilN CP heapN) := by
  refine F.ok scPHe (fun vs H Q E h => ?_) (fun cdv A outer s H vs Q E hr h => ?_)
  · obtain ⟨x, r, l, dx, cs, ss, rfl, _⟩ := h
    rfl
  · obtain ⟨x, r, l, dx, cs, ss, rfl, hp, hn, k⟩ := h
    obtain ⟨t, w_, u, z, hv, hat, ht, hu, hw, hh, hz⟩ := hp.curN hn
    exact ⟨_, (pss_one (ps_ret (pe_ix ix_tup (pe_ix ix_list (pe_fld (pv 0) rfl) (pe_un un_neg pe_int) (fun _ _ => rfl)) pe_int (fun _ _ => rfl)))), s_ret (ev_ixQ (eq_of (ev_last PC hp rfl hat) ht) ev_c (atI_nat (j := 1) rfl)) fun H1 e1 => k _ H1 e1 ⟨w_, hv, rfl, ex_rd e1 hw, hh.ext e1⟩⟩
end
section
variable {K : PySem.W.Frag} {σ : L2.St} {H : Hp} {CP x r l dx : Addr} {cs : List V} {ss : List PSt} {ta : TE} {E : XK}
theorem er_pilN {R : List PSt → Hp → V → Prop} (ha : Ev ta σ H (.ref x)) (hp : PileK H CP x r l dx cs ss) (hn : 0 < ss.length) : EvR (tProp CP (spPilN CP R) [] E ta) σ H (R ss) := fun H1 e Q k =>
  ha H1 e _ fun H2 e2 => ⟨x, dx, _, rfl, (hp.ext (e.trans e2)).ins, x, r, l, dx, cs, ss, rfl, hp.ext (e.trans e2), hn, fun v H' e' h => k v H' (e2.trans e') h⟩
end
/-! ### the days -/
theorem rearr_count (d : DayD) (p : List Int) (x : Int) : (rearr d p).count x = p.count x := by
  unfold rearr
  split
  · rw [List.count_reverse]
  · split
    · have := congrArg (List.count x) (List.take_append_drop d.depth.toNat p)
      rw [List.count_append] at this ⊢
      omega
    · rfl
theorem laid_count (d : DayD) (p h : List Int) (x : Int) : (laidBack d p h).count x = p.count x + h.count x := by
  have := congrArg (List.count x) (List.take_append_drop d.depth.toNat p)
  unfold laidBack
  rw [List.count_append] at this
  rw [List.count_append, List.count_append]
  split
  · rw [List.count_reverse]
    omega
  · omega
structure DInv (dd : List DayD) (a b : Int) (i : Nat) (ss : List PSt) : Prop where
  pos : 0 < ss.length
  day : letsNow ss dd = none ∨ ss.length = i + 1
  hl : ((curSt ss).heaps.length : Int) = b
  perm : ((curSt ss).pile ++ (curSt ss).heaps.flatten).Perm (rangeI a)
  us : (curSt ss).uses.length = a.toNat
  few : ss.length ≤ i + 1
  hs : ss.length = i + 1 → ∀ j : Nat, (j : Int) < b → (dAt dd ((i : Int) - b + (j : Int))).word ≠ "take" → (curSt ss).heaps.getD j [] = []
theorem rangeI_len (a : Int) : (rangeI a).length = a.toNat := by
  unfold rangeI
  rw [List.length_map, List.length_range]
theorem flat_sum (hs : List (List Int)) : (hs.map List.length).sum = hs.flatten.length := by
  rw [List.length_flatten]
theorem DInv.total {dd : List DayD} {a b : Int} {i : Nat} {ss : List PSt} (I : DInv dd a b i ss) : (curSt ss).pile.length + (curSt ss).heaps.flatten.length = a.toNat := by
  have := I.perm.length_eq
  rw [List.length_append, rangeI_len] at this
  exact this
theorem DInv.fit {dd : List DayD} {a b : Int} {i : Nat} {ss : List PSt} (I : DInv dd a b i ss) (a10 : a ≤ 10) (b2 : b ≤ 2) : Fit (curSt ss) := by
  have h1 := I.total
  have h2 := I.hl
  have h3 := I.us
  refine ⟨?_, by omega, by omega⟩
  unfold PW.total
  rw [flat_sum]
  omega
theorem dinv0 {dd : List DayD} {a b : Int} (b0 : 0 ≤ b) : DInv dd a b 0 [st0 a b] := by
  have e : curSt [st0 a b] = st0 a b := rfl
  refine ⟨by simp, .inr rfl, ?_, ?_, ?_, by simp, fun _ j hj _ => ?_⟩
  · rw [e]
    show ((List.replicate b.toNat ([] : List Int)).length : Int) = b
    rw [List.length_replicate]
    omega
  · rw [e]
    show (rangeI a ++ (List.replicate b.toNat ([] : List Int)).flatten).Perm (rangeI a)
    have : (List.replicate b.toNat ([] : List Int)).flatten = [] := by simp
    rw [this, List.append_nil]
  · rw [e]
    show (List.replicate a.toNat (0 : Int)).length = a.toNat
    rw [List.length_replicate]
  · rw [e]
    show (List.replicate b.toNat ([] : List Int)).getD j [] = []
    rw [List.getD_eq_getElem?_getD, List.getElem?_replicate]
    split <;> rfl
theorem DInv.stay {dd : List DayD} {a b : Int} {i : Nat} {ss : List PSt} (I : DInv dd a b i ss) (h : letsNow ss dd = none) : DInv dd a b (i + 1) ss :=
  ⟨I.pos, .inl h, I.hl, I.perm, I.us, by have := I.few; omega, fun z => by have := I.few; omega⟩
/-- which row a day has, and which one lays back -/
theorem row_now {dd : List DayD} {i : Nat} {ss : List PSt} (h : ss.length = i + 1) : dd.getD (rowIx ss dd) dayNone = dAt dd (i : Int) := by
  unfold rowIx dAt
  rw [h, Nat.add_sub_cancel, ← Int.natCast_emod, Int.toNat_natCast]
theorem row_taken {dd : List DayD} {i : Nat} {ss : List PSt} {b : Int} {m : Nat} (h : ss.length = i + 1) (hm : (m : Int) = b) : dd.getD (takenIx dd.length (rowIx ss dd) m) dayNone = dAt dd ((i : Int) - b) := by
  unfold rowIx dAt takenIx
  rw [h, Nat.add_sub_cancel, Int.natCast_emod]
  have e : ((i : Int) % (dd.length : Int)) + 1 - ((m + 1 : Nat) : Int) = (i : Int) % (dd.length : Int) + (-b) := by
    have : ((m + 1 : Nat) : Int) = b + 1 := by omega
    rw [this]
    omega
  rw [e, Int.emod_add_emod, ← Int.sub_eq_add_neg]
theorem next_pile {dd : List DayD} {i : Nat} {ss : List PSt} {b k : Int} (h : ss.length = i + 1) (hl : ((curSt ss).heaps.length : Int) = b) (b1 : 1 ≤ b) :
    (nextSt dd ss k).pile = laidBack (dAt dd ((i : Int) - b)) (rearr (dAt dd (i : Int)) ((curSt ss).pile.drop k.toNat)) ((curSt ss).heaps.getD 0 []) := by
  show laidBack (dd.getD (takenIx dd.length (rowIx ss dd) (curSt ss).heaps.length) dayNone) (rearr (dd.getD (rowIx ss dd) dayNone) ((curSt ss).pile.drop k.toNat)) (((curSt ss).heaps ++ [(curSt ss).pile.take k.toNat]).getD 0 []) = _
  rw [row_taken h hl, row_now h]
  congr 1
  cases z : (curSt ss).heaps with
  | nil => rw [z] at hl; simp at hl; omega
  | cons x xs => rfl
theorem DInv.next {dd : List DayD} {a b : Int} {i : Nat} {ss : List PSt} {k : Int} (I : DInv dd a b i ss) (h : ss.length = i + 1) (b1 : 1 ≤ b) (hk : (dAt dd (i : Int)).word ≠ "take" → k = 0) : DInv dd a b (i + 1) (ss ++ [nextSt dd ss k]) := by
  have hl := I.hl
  have np := next_pile (dd := dd) (k := k) h hl b1
  have nh : (nextSt dd ss k).heaps = ((curSt ss).heaps ++ [(curSt ss).pile.take k.toNat]).drop 1 := rfl
  refine ⟨by simp, .inr (by rw [List.length_append, h]; rfl), ?_, ?_, ?_, by rw [List.length_append, h]; exact Nat.le_refl _, fun _ j hj hw => ?_⟩
  · rw [cur_app, next_heaps]
    exact hl
  · rw [cur_app]
    refine List.Perm.trans ?_ I.perm
    rw [List.perm_iff_count]
    intro x
    rw [List.count_append, np, laid_count, rearr_count, nh, List.count_append]
    have tk := congrArg (List.count x) (List.take_append_drop k.toNat (curSt ss).pile)
    rw [List.count_append] at tk
    cases z : (curSt ss).heaps with
    | nil => rw [z] at hl; simp at hl; omega
    | cons y ys =>
      show _ + y.count x + ((ys ++ [(curSt ss).pile.take k.toNat]).flatten).count x = _
      rw [List.flatten_append, List.flatten_cons, List.count_append, List.count_append]
      simp only [List.flatten_cons, List.flatten_nil, List.append_nil, List.count_append, List.count_nil]
      omega
  · rw [cur_app, next_uses]
    exact I.us
  · rw [cur_app, nh]
    by_cases z : (j : Int) + 1 < b
    · have e := I.hs h (j + 1) (by omega) (by
        have : (i : Int) - b + ((j + 1 : Nat) : Int) = ((i + 1 : Nat) : Int) - b + (j : Int) := by omega
        rw [this]
        exact hw)
      rw [List.getD_eq_getElem?_getD] at e ⊢
      rw [List.getElem?_drop, Nat.add_comm 1 j, List.getElem?_append_left (by omega)]
      exact e
    · have jb : j + 1 = (curSt ss).heaps.length := by omega
      have e : ((i + 1 : Nat) : Int) - b + (j : Int) = (i : Int) := by omega
      rw [e] at hw
      have k0 := hk hw
      rw [List.getD_eq_getElem?_getD, List.getElem?_drop, Nat.add_comm 1 j, jb, List.getElem?_append_right (Nat.le_refl _), Nat.sub_self, k0]
      rfl
/-- the heap that comes back holds none of what lies there -/
theorem DInv.apart {dd : List DayD} {a b : Int} {i : Nat} {ss : List PSt} {k : Int} {d : DayD} (I : DInv dd a b i ss) (b1 : 1 ≤ b) : ∀ x ∈ (curSt ss).heaps.getD 0 [], x ∉ rearr d ((curSt ss).pile.drop k.toNat) := by
  have nd : ((curSt ss).pile ++ (curSt ss).heaps.flatten).Nodup := I.perm.nodup_iff.mpr (by
    unfold rangeI
    unfold List.Nodup
    rw [List.pairwise_map]
    exact List.nodup_range.imp fun h => by omega)
  have hl := I.hl
  intro x hx hr
  cases z : (curSt ss).heaps with
  | nil => rw [z] at hl; simp at hl; omega
  | cons y ys =>
    rw [z] at hx nd
    have hx2 : x ∈ y := hx
    have c : 0 < (rearr d ((curSt ss).pile.drop k.toNat)).count x := List.count_pos_iff.mpr hr
    rw [rearr_count] at c
    have hp : x ∈ (curSt ss).pile := List.mem_of_mem_drop (List.count_pos_iff.mp c)
    rw [List.nodup_append] at nd
    exact nd.2.2 x hp x (List.mem_flatten.mpr ⟨y, List.mem_cons_self, hx2⟩) rfl
end PW
namespace PW
open PySem PySem.Spec PyProof.Rows L2 Evl
/-! ### the law's own -/
section
variable {P : Program} {w : World} {K : PySem.W.Frag} {mg : Str → Option Value} {base : Heap} {C CD fI fR pR CR : Addr} {mc : Value} {dR : FuncData}
/-- the class Rule -/
structure Cl (K : PySem.W.Frag) (mg : Str → Option Value) (C fI fR pR CR : Addr) (mc : Value) (dR : FuncData) : Prop where
  R : Ru K C
  I : IsC K C
  m : mg "Rule" = some (.ref C)
  M : Mk K C fI
  rd : ClX.CRead K C mc
  cm : ClX.CMet K C mc "read" pR fR
  F : Fun K "read" "Rule.read" sRead fR dR
  b : Binds K dR ["cls", "text"] []
  mR : mg "InvalidRows" = some (.ref CR)
end
abbrev sHead : Stmt := top 77
abbrev sRowAt : Stmt := top 79
theorem scHead : FnScope ["_law_rows_now", "_law_words"] ["_law_rows_now"] (defScope sHead) := ⟨rfl, rfl, rfl, by decide +kernel, rfl, by decide +kernel, by decide +kernel⟩
theorem scRowAt : FnScope ["_law_rows_now", "_law_day_now"] ["_law_rows_now", "_law_day_now"] (defScope sRowAt) := ⟨rfl, rfl, rfl, by decide +kernel, rfl, by decide +kernel, by decide +kernel⟩
def spHead (K : PySem.W.Frag) : Sp := fun vs H Q _ => ∃ (r : Addr) (ss : List Str) (a b : Int), vs = [.ref r] ∧ SqL K H r (ss.map V.str) ∧ 1 ≤ ss.length ∧ HeadW (ss.getD 0 "") a b ∧
  ∀ l H', H l = none → Ex H H' → H' l = some (.lst [.int a, .int b]) → Q (.ref l) H'
def spRowAt (K : PySem.W.Frag) : Sp := fun vs H Q _ => ∃ (r : Addr) (ss : List Str) (n : Int), vs = [.ref r, .int n] ∧ SqL K H r (ss.map V.str) ∧ 2 ≤ ss.length ∧ ss.length ≤ 100 ∧ (∀ s ∈ ss, s.length ≤ 1000) ∧
  ∀ l H', H l = none → Ex H H' → H' l = some (.lst ((Txt.split (rowOf ss n) " ").map V.str)) → Q (.ref l) H'
theorem mem_takesM {l d : Int} {wh k : Str} (h1 : 0 ≤ l ∧ l < 3) (h2 : 0 ≤ d ∧ d < 4) (h3 : wh ∈ wheresM) (h4 : k ∈ keptW) : mkTake l (l + d) wh k ∈ takesM := by
  have e1 : l ∈ ([0, 1, 2] : List Int) := by
    have : l = 0 ∨ l = 1 ∨ l = 2 := by omega
    rcases this with rfl | rfl | rfl <;> simp
  have e2 : d ∈ ([0, 1, 2, 3] : List Int) := by
    have : d = 0 ∨ d = 1 ∨ d = 2 ∨ d = 3 := by omega
    rcases this with rfl | rfl | rfl | rfl <;> simp
  exact List.mem_flatMap.mpr ⟨l, e1, List.mem_flatMap.mpr ⟨d, e2, List.mem_flatMap.mpr ⟨wh, h3, List.mem_map.mpr ⟨k, h4, rfl⟩⟩⟩⟩
theorem getD_mem {ws : List Str} {i : Nat} (h : i < ws.length) : ws.getD i "" ∈ ws := by
  rw [List.getD_eq_getElem?_getD, List.getElem?_eq_getElem h]
  exact List.getElem_mem h
theorem mem_nine {n : Int} (h : 1 ≤ n ∧ n ≤ 9) : n ∈ nineW := by
  have : n = 1 ∨ n = 2 ∨ n = 3 ∨ n = 4 ∨ n = 5 ∨ n = 6 ∨ n = 7 ∨ n = 8 ∨ n = 9 := by omega
  rcases this with rfl | rfl | rfl | rfl | rfl | rfl | rfl | rfl | rfl <;> decide
theorem mem_headsM {m a : Int} (h1 : 2 ≤ m ∧ m ≤ 10) (h2 : 0 ≤ a ∧ a ≤ 2) : mkHead m a ∈ headsM := by
  have e1 : m ∈ ([2, 3, 4, 5, 6, 7, 8, 9, 10] : List Int) := by
    have : m = 2 ∨ m = 3 ∨ m = 4 ∨ m = 5 ∨ m = 6 ∨ m = 7 ∨ m = 8 ∨ m = 9 ∨ m = 10 := by omega
    rcases this with rfl | rfl | rfl | rfl | rfl | rfl | rfl | rfl | rfl <;> decide
  have e2 : a ∈ ([0, 1, 2] : List Int) := by
    have : a = 0 ∨ a = 1 ∨ a = 2 := by omega
    rcases this with rfl | rfl | rfl <;> decide
  exact List.mem_flatMap.mpr ⟨m, e1, List.mem_map.mpr ⟨a, e2, rfl⟩⟩
theorem wheresM_short : ∀ x ∈ wheresM, x.length ≤ 20 := by decide +kernel
theorem keptW_short : ∀ x ∈ keptW, x.length ≤ 20 := by decide +kernel
theorem txt_short {n : Int} (h : 0 ≤ n ∧ n < 100) : (txt n).length ≤ 10 := (small_num h.1 h.2).2
theorem RowsM.lens {ss : List Str} (r : RowsM ss) : ∀ s ∈ ss, s.length ≤ 1000 := fun s hs => by
  obtain ⟨a, b, hw⟩ := r.headW
  exact (fine_of ((r.good hw).1.fine s hs)).1
section
variable {P : Program} {w : World} {K : PySem.W.Frag} {mg : Str → Option Value} {base : Heap} {f fD fO fW : Addr} {fd dD dO dW : FuncData} {j : Nat}
theorem ok_head (F : Fun K "_law_head" "_law_head" sHead f fd) (B : Blt mg) : FnOk P w K mg base CX0 (j + 1) f fd ["_law_rows_now"] (spHead K) := by
  refine F.ok scHead (fun vs H Q E h => ?_) (fun cdv A outer s H vs Q E hr h => ?_)
  · obtain ⟨r, ss, a, b, rfl, _⟩ := h
    rfl
  · obtain ⟨r, ss, a, b, rfl, hS, g1, hw, k⟩ := h
    have l0 := (fine_of hw.fine).1
    have wm : ∀ i, i < 4 → (Txt.split (ss.getD 0 "") " ").getD i "" ∈ Txt.split (ss.getD 0 "") " " := fun i hi => getD_mem (by rw [hw.four]; omega)
    refine ⟨_, (pss_cons (ps_set (i := 1) scHead.nd rfl (.inl rfl) (pe_split (pe_ix ix_list (pv 0) pe_int (fun _ _ => rfl)) pe_str))
      (pss_one (ps_ret (pe_lst (pa_cons (pe_callTy call_int_str (by rfl) B.int PyProof.Rows.Boot.int (pa_cons (pe_ix ix_list (pv 1) pe_int (fun _ _ => rfl)) pa_nil)) (pa_cons (pe_callTy call_int_str (by rfl) B.int PyProof.Rows.Boot.int (pa_cons (pe_ix ix_list (pv 1) pe_int (fun _ _ => rfl)) pa_nil)) pa_nil)))))), ?_⟩
    refine q_asgL (el_split (a := ss.getD 0 "") (ev_op (ev_var rfl) ev_c (rv_ixL hS (word_at (i := 0) (by omega)))) ev_c l0 rfl) fun p H1 n1 e1 h1 => ?_
    have int : ∀ {H9 : Hp} (i : Nat) (n : Int), i < 4 → Ex H1 H9 → PySem.intText? ((Txt.split (ss.getD 0 "") " ").getD i "") = some n →
        Ev (tCB (fun xs H Q => ∃ a n, xs = [.str a] ∧ PySem.intText? a = some n ∧ a.length ≤ 640 ∧ Q (.int n) H) (tCons (tOp (rIxL K) (tVar 1) (tC (.int (i : Int)))) tNil)) [some (.ref r), some (.ref p)] H9 (.int n) := fun i n hi e9 ht =>
      ev_cb (ea_cons (ev_op (ev_var rfl) ev_c (rv_ixL (sq_of (e9 _ _ h1)) (word_at (ws := Txt.split (ss.getD 0 "") " ") (by rw [hw.four]; omega)))) ea_nil) fun H8 _ Q8 q8 => ⟨_, n, rfl, ht, hw.short _ (wm i hi), q8 H8 (Ex.refl H8)⟩
    refine s_retL (el_lst (ea_cons (int 1 a (by omega) (Ex.refl _) hw.w1) (ea_cons (int 3 b (by omega) (Ex.refl _) hw.w3) ea_nil)) (Nat.le_of_ble_eq_true rfl)) fun l H2 nl e2 hl => k l H2 (fresh_back e1 nl) (e1.trans e2) hl
theorem ok_rowAt (F : Fun K "_law_row_at" "_law_row_at" sRowAt f fd) (B : Blt mg) : FnOk P w K mg base CX0 (j + 1) f fd ["_law_rows_now", "_law_day_now"] (spRowAt K) := by
  refine F.ok scRowAt (fun vs H Q E h => ?_) (fun cdv A outer s H vs Q E hr h => ?_)
  · obtain ⟨r, ss, n, rfl, _⟩ := h
    rfl
  · obtain ⟨r, ss, n, rfl, hS, g2, g100, lens, k⟩ := h
    have l1 : (ss.map V.str).length = ss.length := List.length_map ..
    have m0 : (0 : Int) < ((ss.length - 1 : Nat) : Int) := by omega
    have r0 := Int.emod_nonneg n (show ((ss.length - 1 : Nat) : Int) ≠ 0 by omega)
    have r1 := Int.emod_lt_of_pos n m0
    have lt : 1 + (n % ((ss.length - 1 : Nat) : Int)).toNat < ss.length := by omega
    refine ⟨_, (pss_one (ps_ret (pe_split (pe_ix ix_list (pv 0) (pe_op op_add pe_int (pe_op op_mod (pe_callTy call_int1 (by rfl) B.int PyProof.Rows.Boot.int (pa_cons (pv 1) pa_nil)) (pe_op op_sub (pe_callB call_len_seq (by rfl) B.len PySem.boot_len (pa_cons (pv 0) pa_nil)) pe_int))) (fun _ _ => rfl)) pe_str))), ?_⟩
    refine s_retL (el_split (a := rowOf ss n) (ev_op (ev_var rfl) (ev_is (v := .int (1 + n % ((ss.length - 1 : Nat) : Int))) (ev_op ev_c (ev_op (x := .int n) (ev_cb (ea_cons (ev_var rfl) ea_nil) fun H1 _ Q1 q1 => .inl ⟨n, rfl, q1 H1 (Ex.refl H1)⟩) (ev_is (ev_op (ev_len (ev_var rfl) hS) ev_c rv_I0) (congrArg V.int (by rw [l1]; omega))) (rv_I m0)) rv_I0) (congrArg V.int (show (1 : Int) + n % ((ss.length - 1 : Nat) : Int) = ((1 + (n % ((ss.length - 1 : Nat) : Int)).toNat : Nat) : Int) by omega))) (rv_ixL hS (word_at lt))) ev_c ?_ rfl) fun l H1 nl e1 hl => k l H1 nl e1 hl
    refine lens _ ?_
    unfold rowOf
    rw [List.getD_eq_getElem?_getD, List.getElem?_eq_getElem lt]
    exact List.getElem_mem lt
end
end PW
namespace PW
open PySem PySem.Spec PyProof.Rows L2 Evl
abbrev sBegin : Stmt := top 78
theorem scBegin : FnScope ["_law_rows_now", "_law_many", "_law_late"] ["_law_rows_now"] (defScope sBegin) := ⟨rfl, rfl, rfl, by decide +kernel, rfl, by decide +kernel, by decide +kernel⟩
abbrev sSpan : Stmt := top 80
theorem scSpan : FnScope ["_law_rows_now", "_law_state", "_law_words", "_law_least", "_law_most_now", "_law_lying"] ["_law_rows_now", "_law_state"] (defScope sSpan) := ⟨rfl, rfl, rfl, by decide +kernel, rfl, by decide +kernel, by decide +kernel⟩
abbrev sBack : Stmt := top 81
theorem scBack : FnScope ["_law_words", "_law_spots", "_law_heap", "_law_above"] ["_law_words", "_law_spots", "_law_heap"] (defScope sBack) := ⟨rfl, rfl, rfl, by decide +kernel, rfl, by decide +kernel, by decide +kernel⟩
abbrev sNext : Stmt := top 82
theorem scNext : FnScope ["_law_rows_now", "_law_state", "_law_lot", "_law_day_now", "_law_spots", "_law_heaps_now", "_law_words", "_law_late", "_law_taken"] ["_law_rows_now", "_law_state", "_law_lot"] (defScope sNext) := ⟨rfl, rfl, rfl, by decide +kernel, rfl, by decide +kernel, by decide +kernel⟩

/-- the law's own state: the day, the pile, the heaps that are away -/
def stL (i : Int) (pile : List Int) (heaps : List (List Int)) : PyData := .tuple [.int i, intsD pile, heapsD heaps]
theorem stL_dat {H : Hp} {v : V} {i : Int} {pile : List Int} {heaps : List (List Int)} (h : Dat H v (stL i pile heaps)) :
    ∃ t u w hv, v = .ref t ∧ Rd H t (.tup [.int i, .ref u, .ref w]) ∧ Rd H u (.tup (pile.map V.int)) ∧ Rd H w (.tup hv) ∧ Dats H hv (heaps.map intsD) := by
  obtain ⟨t, xs, rfl, ht, hx⟩ := tup_dat h
  cases hx with
  | cons a r => cases r with
    | cons b r => cases r with
      | cons c r =>
        cases r
        cases a
        obtain ⟨u, rfl, hu⟩ := ints_dat b
        obtain ⟨w, hv, rfl, hw, hd⟩ := tup_dat c
        exact ⟨t, u, w, hv, rfl, ht, hu, hw, hd⟩
theorem dat_stL {H : Hp} {t u w : Addr} {hv : List V} {i : Int} {pile : List Int} {heaps : List (List Int)} (ht : Rd H t (.tup [.int i, .ref u, .ref w])) (hu : Rd H u (.tup (pile.map V.int))) (hw : Rd H w (.tup hv)) (hd : Dats H hv (heaps.map intsD)) : Dat H (.ref t) (stL i pile heaps) :=
  .tup ht (.cons (.int i) (.cons (dat_ints hu) (.cons (.tup hw hd) .nil)))
theorem rgV_nil {a b : Int} (h : b ≤ a) : rgV a b = [] := by
  unfold rgV
  rw [show (b - a).toNat = 0 by omega]
  rfl
theorem rgV_map (a b : Int) : rgV a b = ((List.range (b - a).toNat).map fun (j : Nat) => a + (j : Int)).map V.int := by
  unfold rgV
  rw [List.map_map]
  rfl
def spanI : Option (Int × Int) → List Int
  | none => []
  | some (lo, hi) => (List.range (hi + 1 - lo).toNat).map fun (j : Nat) => lo + (j : Int)
section
variable {K : PySem.W.Frag} {σ : L2.St} {H : Hp} {ta tb te : TE}
theorem er_rgT {a : Int} (h : Ev ta σ H (.int a)) (h0 : 0 ≤ a) (h1 : a ≤ 1000) : EvR (tTupRg (tRg1 ta)) σ H (fun H' v => Dat H' v (intsD (rangeI a))) := fun H1 e Q q =>
  h H1 e _ fun H2 e2 => ⟨a, rfl, RgOk.of_le (by omega) (by omega) (by omega) (by omega), fun t nt => q _ _ (e2.trans (Ex.new nt)) (dat_ints (.inl (by rw [← rgV_ints]; exact upd_same)))⟩
theorem er_repE {b : Int} (hb : Ev tb σ H (.int b)) (h0 : 0 ≤ b) (h1 : b ≤ 1000) : EvR (tOp (rRepU K) (tTup (tCons (tTup tNil) tNil)) tb) σ H (fun H' v => Dat H' v (heapsD (List.replicate b.toNat []))) := fun H1 e Q q =>
  ⟨Nat.zero_le _, fun t0 n0 => ⟨by show 1 ≤ sizeLine; decide, fun t2 n2 => by
    have e2 := (Ex.new (o := .tup []) n0).trans (Ex.new (o := .tup [V.ref t0]) n2)
    refine hb _ (e.trans e2) _ fun H6 e6 => ?_
    have h6 : H6 t2 = some (.tup [V.ref t0]) := e6 _ _ upd_same
    have h60 : H6 t0 = some (.tup []) := e6 _ _ (Ex.new n2 _ _ upd_same)
    refine ⟨t2, b, [V.ref t0], rfl, rfl, st_of h6, by simp, h0, h1, by show 1 ≤ 1000; decide, fun z => q _ _ (e2.trans e6) ?_, fun z p np => q _ _ ((e2.trans e6).trans (Ex.new np)) ?_⟩
    · subst z
      exact .tup (.inl h6) (.cons (dat_ints (ns := []) (.inl h60)) .nil)
    · refine .tup (.inl (by rw [flat_one]; exact upd_same)) ?_
      rw [List.map_replicate]
      exact dats_rep (dat_ints (ns := []) (.inl (Ex.new np _ _ h60))) _⟩⟩
theorem ev_word {j : Nat} {p : Addr} {ws : List Str} {i : Nat} (h : σ[j]? = some (some (.ref p))) (hp : SqL K H p (ws.map V.str)) (hi : i < ws.length) : Ev (tOp (rIxL K) (tVar j) (tC (.int (i : Int)))) σ H (.str (ws.getD i "")) :=
  ev_op (ev_var h) ev_c (rv_ixL hp (word_at hi))
theorem ev_wint {j : Nat} {p : Addr} {ws : List Str} {i : Nat} {n : Int} (h : σ[j]? = some (some (.ref p))) (hp : SqL K H p (ws.map V.str)) (hi : i < ws.length) (hs : ∀ x ∈ ws, x.length ≤ 640) (hn : PySem.intText? (ws.getD i "") = some n) :
    Ev (tCB (fun xs H Q => ∃ a n, xs = [.str a] ∧ PySem.intText? a = some n ∧ a.length ≤ 640 ∧ Q (.int n) H) (tCons (tOp (rIxL K) (tVar j) (tC (.int (i : Int)))) tNil)) σ H (.int n) :=
  ev_cb (ea_cons (ev_word h hp hi) ea_nil) fun H8 _ Q8 q8 => ⟨_, n, rfl, hn, hs _ (getD_mem hi), q8 H8 (Ex.refl H8)⟩
theorem ev_wlast {j : Nat} {p : Addr} {ws : List Str} (h : σ[j]? = some (some (.ref p))) (hp : SqL K H p (ws.map V.str)) (hi : 0 < ws.length) : Ev (tOp (rIxL K) (tVar j) (tUn (rU fun i => .int (-i)) (tC (.int 1)))) σ H (.str (ws.getD (ws.length - 1) "")) :=
  ev_op (ev_var h) (ev_un ev_c ru_neg) (rv_ixL hp (word_last hi))
end
section
variable {σ : L2.St} {H : Hp} {ta tb : TE} {t : TA} {D : Ends} {tz : TS} {i j l : Nat} {x y z : V}
theorem q_par3 (h : EvA t σ H [x, y, z]) (k : ∀ H1, Ex H H1 → tz D (((σ.set i (some x)).set j (some y)).set l (some z)) H1) : tSeq (tPar3 i j l t) tz D σ H := h H (Ex.refl H) _ fun H1 e => ⟨x, y, z, rfl, k H1 e⟩
theorem q_parR3 {te : TE} {R1 R2 R3 : Hp → V → Prop} (m1 : Mono R1) (m2 : Mono R2) (ha : EvR ta σ H R1) (hb : EvR tb σ H R2) (hc : EvR te σ H R3) (k : ∀ v u s H1, Ex H H1 → R1 H1 v → R2 H1 u → R3 H1 s → tz D (((σ.set i (some v)).set j (some u)).set l (some s)) H1) : tSeq (tPar3 i j l (tCons ta (tCons tb (tCons te tNil)))) tz D σ H :=
  ha H (Ex.refl H) _ fun v H1 e1 r1 => hb H1 e1 _ fun u H2 e2 r2 => hc H2 (e1.trans e2) _ fun s H3 e3 r3 => ⟨v, u, s, rfl, k v u s H3 ((e1.trans e2).trans e3) (m1 _ _ _ (e2.trans e3) r1) (m2 _ _ _ e3 r2) r3⟩
theorem q_ifR {te : TE} {R : Hp → V → Prop} {tt : TT} {b : Bool} {v0 : V} (h : EvT tt σ H b) (h1 : b = true → EvR te σ H R) (h2 : σ.set i (some v0) = σ) (h3 : b = false → ∀ H1, Ex H H1 → R H1 v0) (k : ∀ v H1, Ex H H1 → R H1 v → tz D (σ.set i (some v)) H1) :
    tSeq (tIfS tt (tAsg te (gName i)) tNext) tz D σ H := h H (Ex.refl H) _ fun H1 e1 => by
  cases b with
  | true => exact h1 rfl H1 e1 _ fun v H2 e2 r => k v H2 (e1.trans e2) r
  | false =>
    have q := k v0 H1 e1 (h3 rfl H1 e1)
    rw [h2] at q
    exact q
/-- a tuple of these numbers -/
def IsT (xs : List V) (H : Hp) (v : V) : Prop := ∃ p, v = .ref p ∧ Rd H p (.tup xs)
theorem isT_mono (xs : List V) : Mono (IsT xs) := fun _ _ _ e ⟨p, a, b⟩ => ⟨p, a, ex_rd e b⟩
theorem isI_mono (i : Int) : Mono (fun (_ : Hp) v => v = V.int i) := fun _ _ _ _ h => h
def IsW (xs : List V) (H : Hp) (v : V) : Prop := ∃ p, v = .ref p ∧ H p = some (.lst xs)
theorem isW_mono (xs : List V) : Mono (IsW xs) := fun _ _ _ e ⟨p, a, b⟩ => ⟨p, a, e _ _ b⟩
end
def spBegin (K : PySem.W.Frag) : Sp := fun vs H Q _ => ∃ (r : Addr) (ss : List Str) (a b : Int), vs = [.ref r] ∧ SqL K H r (ss.map V.str) ∧ 1 ≤ ss.length ∧ HeadW (ss.getD 0 "") a b ∧
  ∀ v H', Ex H H' → Dat H' v (stL 0 (st0 a b).pile (st0 a b).heaps) → Q v H'
def spSpan (K : PySem.W.Frag) : Sp := fun vs H Q _ => ∃ (r : Addr) (ss : List Str) (v : V) (i : Int) (pile : List Int) (heaps : List (List Int)), vs = [.ref r, v] ∧ SqL K H r (ss.map V.str) ∧ RowsM ss ∧ Dat H v (stL i pile heaps) ∧ pile.length ≤ 1000 ∧
  ∀ l H', H l = none → Ex H H' → H' l = some (.lst ((spanI (letsOf (dAt (dayList ss) i) (pile.length : Int))).map V.int)) → Q (.ref l) H'
def spBack (K : PySem.W.Frag) : Sp := fun vs H Q _ => ∃ (r a b : Addr) (ws : List Str) (d : DayD) (ns ms : List Int), vs = [.ref r, .ref a, .ref b] ∧ SqL K H r (ws.map V.str) ∧ Words ws d ∧ Rd H a (.tup (ns.map V.int)) ∧ Rd H b (.tup (ms.map V.int)) ∧ ns.length ≤ 10 ∧ ms.length ≤ 10 ∧ (d.word ≠ "take" → ms = []) ∧
  ∀ p H', Ex H H' → Rd H' p (.tup ((laidBack d ns ms).map V.int)) → Q (.ref p) H'
/-- behind the i-th day -/
def bdAt (dd : List DayD) (i : Int) (pile : List Int) (heaps : List (List Int)) (k : Int) : List Int × List (List Int) :=
  (laidBack (dAt dd (i - (heaps.length : Int))) (rearr (dAt dd i) (pile.drop k.toNat)) ((heaps ++ [pile.take k.toNat]).getD 0 []), (heaps ++ [pile.take k.toNat]).drop 1)
def spNext (K : PySem.W.Frag) : Sp := fun vs H Q _ => ∃ (r : Addr) (ss : List Str) (v : V) (i k : Int) (pile : List Int) (heaps : List (List Int)), vs = [.ref r, v, .int k] ∧ SqL K H r (ss.map V.str) ∧ RowsM ss ∧ Dat H v (stL i pile heaps) ∧ 0 ≤ k ∧ pile.length ≤ 10 ∧ heaps.length ≤ 10 ∧
  ((heaps ++ [pile.take k.toNat]).getD 0 []).length ≤ 10 ∧ ((dAt (dayList ss) (i - (heaps.length : Int))).word ≠ "take" → (heaps ++ [pile.take k.toNat]).getD 0 [] = []) ∧
  ∀ v1 H', Ex H H' → Dat H' v1 (.list [stL (i + 1) (bdAt (dayList ss) i pile heaps k).1 (bdAt (dayList ss) i pile heaps k).2, intsD (pile.take k.toNat)]) → Q v1 H'
theorem RowsM.len100 {ss : List Str} (r : RowsM ss) : ss.length ≤ 100 := by have := r.six; omega
section
variable {P : Program} {w : World} {K : PySem.W.Frag} {mg : Str → Option Value} {base : Heap} {f fH fA fB : Addr} {fd dH dA dB : FuncData} {j : Nat}
theorem ok_begin (F : Fun K "_law_begin" "_law_begin" sBegin f fd) (B : Blt mg) (FH : Fun K "_law_head" "_law_head" sHead fH dH) (bH : Binds K dH ["_law_rows_now"] []) (mH : mg "_law_head" = some (.ref fH)) : FnOk P w K mg base CX0 (j + 2) f fd ["_law_rows_now"] (spBegin K) := by
  have GH : FnOk P w K mg base CX0 (j + 1) fH dH ["_law_rows_now"] (spHead K) := ok_head FH B
  refine F.ok scBegin (fun vs H Q E h => ?_) (fun cdv A outer s H vs Q E hr h => ?_)
  · obtain ⟨r, ss, a, b, rfl, _⟩ := h
    rfl
  · obtain ⟨r, ss, a, b, rfl, hS, g1, hw, k⟩ := h
    obtain ⟨a2, a10, b0, b2⟩ := first_bounds hw.f
    refine ⟨_, (pss_cons (ps_asg (pe_call GH hr (by rfl) mH FH.kp bH .nil pass0 (pa_cons (pv 0) pa_nil)) (pg_lst rfl (pgs_cons (pg_name (i := 1) scBegin.nd rfl (.inl rfl)) (pgs_cons (pg_name (i := 2) scBegin.nd rfl (.inl rfl)) pgs_nil))))
      (pss_one (ps_ret (pe_tup (pa_cons pe_int (pa_cons (pe_tupRg rfl (by rfl) B.tuple (prg_1 (by rfl) B.range (pv 1))) (pa_cons (pe_op op_repU (pe_tup (pa_cons (pe_tup pa_nil) pa_nil)) (pv 2)) pa_nil))))))), ?_⟩
    refine ⟨.ref r, rfl, r, ss, a, b, rfl, hS, g1, hw, fun l H1 nl e1 hl => ⟨l, _, rfl, sq_of hl, rfl, _, _, rfl, _, _, rfl, rfl, ?_⟩⟩
    dsimp only
    exact s_retR (er_dtup (ers_dcons er_dint (ers_dcons (er_rgT (ev_var rfl) (by omega) (by omega)) (ers_dcons (er_repE (ev_var rfl) b0 (by omega)) ers_dnil))) (by show 3 ≤ 1000; decide)) fun v H2 e2 hv => k v H2 (e1.trans e2) hv
theorem ok_span (F : Fun K "_law_span" "_law_span" sSpan f fd) (B : Blt mg) (mli : mg "list" = none) (FA : Fun K "_law_row_at" "_law_row_at" sRowAt fA dA) (bA : Binds K dA ["_law_rows_now", "_law_day_now"] []) (mA : mg "_law_row_at" = some (.ref fA)) : FnOk P w K mg base CX0 (j + 2) f fd ["_law_rows_now", "_law_state"] (spSpan K) := by
  have GA : FnOk P w K mg base CX0 (j + 1) fA dA ["_law_rows_now", "_law_day_now"] (spRowAt K) := ok_rowAt FA B
  refine F.ok scSpan (fun vs H Q E h => ?_) (fun cdv A outer s H vs Q E hr h => ?_)
  · obtain ⟨r, ss, v, i, pile, heaps, rfl, _⟩ := h
    rfl
  · obtain ⟨r, ss, v, i, pile, heaps, rfl, hS, hR, hv, pz, k⟩ := h
    obtain ⟨t, u, wp, hvs, rfl, ht, hu, hw, hd⟩ := stL_dat hv
    refine ⟨_, (pss_cons (ps_set (i := 2) scSpan.nd rfl (.inl rfl) (pe_call GA hr (by rfl) mA FA.kp bA .nil pass0 (pa_cons (pv 0) (pa_cons (pe_ix ix_tup (pv 1) pe_int (fun _ _ => rfl)) pa_nil))))
      (pss_cons (ps_if (pt_cmpR op_ne (pe_ix ix_list (pv 2) pe_int (fun _ _ => rfl)) pe_str (nomark _)) (pss_one (ps_ret (pe_lst (pa_cons pe_int pa_nil)))) pss_nil)
      (pss_cons (ps_par3 (i := 3) (j := 4) (l := 5) rfl scSpan.nd rfl rfl rfl (by decide) (by decide) (by decide) rfl rfl rfl (pa_cons (pe_callTy call_int_str (by rfl) B.int PyProof.Rows.Boot.int (pa_cons (pe_ix ix_list (pv 2) pe_int (fun _ _ => rfl)) pa_nil)) (pa_cons (pe_callTy call_int_str (by rfl) B.int PyProof.Rows.Boot.int (pa_cons (pe_ix ix_list (pv 2) pe_int (fun _ _ => rfl)) pa_nil)) (pa_cons (pe_callB call_len_seq (by rfl) B.len PySem.boot_len (pa_cons (pe_ix ix_tup (pv 1) pe_int (fun _ _ => rfl)) pa_nil)) pa_nil))) (by rfl))
      (pss_one (ps_ret (pe_listRg rfl (by rfl) mli (prg_2 (by rfl) B.range (pv 3) (pe_op op_add (pe_ifExp (pt_cmpR op_lt (pv 4) (pv 5) (nomark _)) (pv 4) (pv 5)) pe_int)))))))), ?_⟩
    obtain ⟨W, hday⟩ := hR.words i
    obtain ⟨ws, hws⟩ : ∃ ws, ws = Txt.split (rowOf ss i) " " := ⟨_, rfl⟩
    obtain ⟨d, hdd⟩ : ∃ d, d = dAt (dayList ss) i := ⟨_, rfl⟩
    have bd := hR.bound i
    rw [← hws, ← hdd] at W
    rw [← hdd] at bd k
    refine q_asgL (xs := ws.map V.str) (fun H1 e1 Q1 q1 => ⟨.ref r, rfl, ?_⟩) fun p H1 n1 e1 h1 => ?_
    · refine (ev_ixQ (i := 0) (v := .int i) (eq_of (ev_var rfl) (ex_rd e1 ht)) ev_c rfl) H1 (Ex.refl H1) _ fun H2 e2 => ⟨r, ss, i, rfl, ex_l (e1.trans e2) hS, hR.two, hR.len100, hR.lens, fun l H3 nl e3 hl => q1 l H3 (fresh_back e2 nl) (e2.trans e3) (by rw [hws]; exact hl)⟩
    have S1 : SqL K H1 p (ws.map V.str) := sq_of h1
    refine q_when (b := !decide (V.str d.word = V.str "take")) (et_test (ev_op (ev_is (ev_word (i := 0) rfl S1 (by have := W.one; omega)) (by rw [W.w0])) ev_c (rv_ne rfl))) (fun z H2 e2 => ?_) (fun z H2 e2 => ?_)
    · have z' : d.word ≠ "take" := by simpa using z
      obtain ⟨r1, r2⟩ := W.rest z'
      refine s_retL (el_lst (vs := [.int 0]) (ea_cons ev_c ea_nil) (Nat.le_of_ble_eq_true rfl)) fun l H3 nl e3 hl => k l H3 (fresh_back (e1.trans e2) nl) ((e1.trans e2).trans e3) ?_
      rw [hl, letsOf, r1, r2, if_neg (by omega)]
      by_cases h0 : ((pile.length : Nat) : Int) < 0
      · omega
      · rw [if_neg h0]
        rfl
    · have z' : d.word = "take" := by simpa using z
      obtain ⟨g7, ⟨wl, wm, wm0⟩, _⟩ := W.take z'
      have S2 : SqL K H2 p (ws.map V.str) := ex_l e2 S1
      have e02 := e1.trans e2
      refine q_par3 (ea_cons (ev_wint (i := 1) rfl S2 (by omega) W.short wl) (ea_cons (ev_wint (i := 3) rfl S2 (by omega) W.short wm) (ea_cons (ev_is (ev_lenQ (eq_of (ev_ixQ (i := 1) (v := .ref u) (eq_of (ev_var rfl) (ex_rd e02 ht)) ev_c rfl) (ex_rd e02 hu))) (by rw [List.length_map])) ea_nil))) fun H3 e3 => ?_
      refine s_retL (xs := rgV d.least ((if d.most < (pile.length : Int) then d.most else (pile.length : Int)) + 1)) (fun H4 e4 Q4 q4 => ⟨_, rfl, ?_⟩) fun l H4 nl e4 hl => k l H4 (fresh_back (e02.trans e3) nl) ((e02.trans e3).trans e4) ?_
      · refine (ev_op (ev_if (v := .int (if d.most < (pile.length : Int) then d.most else (pile.length : Int))) (et_test (ev_op (ev_var rfl) (ev_var rfl) rv_I0)) (fun z => ev_is (ev_var rfl) (by rw [if_pos (of_decide_eq_true z)])) (fun z => ev_is (ev_var rfl) (by rw [if_neg (of_decide_eq_false z)]))) ev_c rv_I0) H4 (Ex.refl H4) _ fun H5 e5 => ⟨_, _, rfl, rfl, ?_, fun q nq => q4 q _ (fresh_back e5 nq) (e5.trans (Ex.new nq)) upd_same⟩
        have := bd.1
        have := bd.2.2.1
        have := bd.2.2.2.1
        unfold RgOk
        split <;> omega
      · rw [hl, letsOf]
        have hmin : (if (pile.length : Int) < d.most then (pile.length : Int) else d.most) = (if d.most < (pile.length : Int) then d.most else (pile.length : Int)) := by
          split <;> split <;> omega
        by_cases hlt : (pile.length : Int) < d.least
        · rw [if_pos hlt]
          show some (HO.lst (rgV _ _)) = some (HO.lst [])
          rw [show rgV d.least ((if d.most < (pile.length : Int) then d.most else (pile.length : Int)) + 1) = [] from rgV_nil (by split <;> omega)]
        · rw [if_neg hlt, hmin]
          show some (HO.lst (rgV _ _)) = some (HO.lst _)
          rw [rgV_map]
          rfl
theorem ok_back (F : Fun K "_law_back" "_law_back" sBack f fd) (B : Blt mg) : FnOk P w K mg base CX0 (j + 1) f fd ["_law_words", "_law_spots", "_law_heap"] (spBack K) := by
  refine F.ok scBack (fun vs H Q E h => ?_) (fun cdv A outer s H vs Q E hr h => ?_)
  · obtain ⟨r, a, b, ws, d, ns, ms, rfl, _⟩ := h
    rfl
  · obtain ⟨r, a, b, ws, d, ns, ms, rfl, hS, W, ha, hb, nz, mz, hno, k⟩ := h
    refine ⟨_, (pss_cons (ps_if (pt_cmpR op_ne (pe_ix ix_list (pv 0) pe_int (fun _ _ => rfl)) pe_str (nomark _)) (pss_one (ps_ret (pv 1))) pss_nil)
      (pss_cons (ps_set (i := 2) scBack.nd rfl (.inl rfl) (pe_ifExp (pt_cmpR op_eq (pe_ix ix_list (pv 0) (pe_un un_neg pe_int) (fun _ _ => rfl)) pe_str (nomark _)) (pe_revT (pv 2)) (pv 2)))
      (pss_cons (ps_if (pt_cmpR op_eq (pe_ix ix_list (pv 0) pe_int (fun _ _ => rfl)) pe_str (nomark _)) (pss_one (ps_ret (pe_op op_catA (pv 2) (pv 1)))) pss_nil)
      (pss_cons (ps_set (i := 3) scBack.nd rfl (.inl rfl) (pe_ifExp (pt_cmpR op_eq (pe_ix ix_list (pv 0) pe_int (fun _ _ => rfl)) pe_str (nomark _)) (pe_callB call_len_seq (by rfl) B.len PySem.boot_len (pa_cons (pv 1) pa_nil)) (pe_callTy call_int_str (by rfl) B.int PyProof.Rows.Boot.int (pa_cons (pe_ix ix_list (pv 0) pe_int (fun _ _ => rfl)) pa_nil))))
      (pss_one (ps_ret (pe_op op_catA (pe_op op_catA (pe_slice sl_tupA (pv 1) po_none (po_some (pv 3))) (pv 2)) (pe_slice sl_tupA (pv 1) (po_some (pv 3)) po_none)))))))), ?_⟩
    refine q_when (b := !decide (V.str d.word = V.str "take")) (et_test (ev_op (ev_is (ev_word (i := 0) rfl hS (by have := W.one; omega)) (by rw [W.w0])) ev_c (rv_ne rfl))) (fun z H1 e1 => ?_) (fun z H1 e1 => ?_)
    · have z' : d.word ≠ "take" := by simpa using z
      refine s_ret (ev_var rfl) fun H2 e2 => k a H2 (e1.trans e2) ?_
      rw [hno z']
      have : laidBack d ns [] = ns := by
        unfold laidBack
        simp
      rw [this]
      exact ex_rd (e1.trans e2) ha
    · have z' : d.word = "take" := by simpa using z
      obtain ⟨g7, _, ht, hdep⟩ := W.take z'
      have S1 : SqL K H1 r (ws.map V.str) := ex_l e1 hS
      -- heap
      refine q_asgR (R := IsT ((if d.turned then ms.reverse else ms).map V.int)) (fun H2 e2 Q2 q2 => ?_) fun v H2 e2 ⟨b2, ev, hb2⟩ => ?_
      · refine (et_test (ev_op (ev_wlast rfl (ex_l e2 S1) (by omega)) ev_c (rv_eq rfl)) : EvT _ _ H2 _) H2 (Ex.refl H2) _ fun H3 e3 => ?_
        have e03 := (e1.trans e2).trans e3
        have e4 : decide (V.str (ws.getD (ws.length - 1) "") = V.str "turned") = d.turned := by rw [ht]; simp
        rw [e4]
        cases hturn : d.turned with
        | true =>
          show tRevT K (tVar 2) _ H3 Q2
          exact (eq_rev (eq_of (ev_var rfl) (ex_rd e03 hb))) H3 (Ex.refl H3) _ fun v H4 e4 ⟨p, ev, hp⟩ => q2 v H4 (e3.trans e4) ⟨p, ev, by rw [hturn, if_pos rfl, List.map_reverse]; exact hp⟩
        | false =>
          show tVar 2 _ H3 Q2
          exact ⟨.ref b, rfl, q2 _ _ e3 ⟨b, rfl, by rw [hturn, if_neg (by decide)]; exact ex_rd e03 hb⟩⟩
      subst ev
      obtain ⟨ks, hks⟩ : ∃ ks, ks = (if d.turned then ms.reverse else ms) := ⟨_, rfl⟩
      have kz : ks.length ≤ 10 := by
        rw [hks]
        split
        · rw [List.length_reverse]; exact mz
        · exact mz
      have lb : laidBack d ns ms = ns.take d.depth.toNat ++ ks ++ ns.drop d.depth.toNat := by rw [laidBack, hks]
      rw [← hks] at hb2
      have S2 : SqL K H2 r (ws.map V.str) := ex_l e2 S1
      have ha2 := ex_rd (e1.trans e2) ha
      -- top
      refine q_when (b := decide (V.str (ws.getD 5 "") = V.str "top")) (et_test (ev_op (ev_word (i := 5) rfl S2 (by omega)) ev_c (rv_eq rfl))) (fun z3 H3 e3 => ?_) (fun z3 H3 e3 => ?_)
      · have w5 : ws.getD 5 "" = "top" := by simpa using z3
        have d0 : d.depth = 0 := by
          rcases hdep with ⟨_, h⟩ | ⟨h, _⟩ | ⟨h, _⟩
          · exact h
          · rw [w5] at h; cases h
          · rw [w5] at h; cases h
        refine s_retR (eq_cat (eq_of (ev_var rfl) (ex_rd e3 hb2)) (eq_of (ev_var rfl) (ex_rd e3 ha2)) (by rw [List.length_map, List.length_map]; omega)) fun v H4 e4 ⟨p, ev, hp⟩ => ?_
        subst ev
        refine k p H4 (((e1.trans e2).trans e3).trans e4) ?_
        rw [lb, d0]
        rw [← List.map_append] at hp
        simpa using hp
      · have w5 : ws.getD 5 "" ≠ "top" := by simpa using z3
        -- above
        obtain ⟨ab, hab, hab0, hcut⟩ : ∃ ab : Int, (if ws.getD 5 "" = "bottom" then ab = (ns.length : Int) else (PySem.intText? (ws.getD 6 "") = some ab ∧ ws.length ≠ 6)) ∧ 0 ≤ ab ∧ ns.take ab.toNat = ns.take d.depth.toNat ∧ ns.drop ab.toNat = ns.drop d.depth.toNat := by
          rcases hdep with ⟨h, _⟩ | ⟨h, hd⟩ | ⟨h, hi, h1, h9⟩
          · exact absurd h w5
          · refine ⟨ns.length, by rw [if_pos h], by omega, ?_, ?_⟩
            · rw [hd, List.take_of_length_le (by omega), List.take_of_length_le (by show ns.length ≤ 10; exact nz)]
            · rw [hd, List.drop_eq_nil_of_le (by omega), List.drop_eq_nil_of_le (by show ns.length ≤ 10; exact nz)]
          · refine ⟨d.depth, by rw [if_neg (by rw [h]; decide)]; exact ⟨hi, by omega⟩, by omega, rfl, rfl⟩
        have S3 : SqL K H3 r (ws.map V.str) := ex_l e3 S2
        refine q_asg (v := .int ab) (ev_if (et_test (ev_op (ev_word (i := 5) rfl S3 (by omega)) ev_c (rv_eq rfl))) (fun z4 => ?_) (fun z4 => ?_)) fun H4 e4 => ?_
        · have w5b : ws.getD 5 "" = "bottom" := by simpa using z4
          rw [if_pos w5b] at hab
          exact ev_is (ev_lenQ (eq_of (ev_var rfl) (ex_rd e3 ha2))) (by rw [List.length_map, hab])
        · have w5b : ¬ ws.getD 5 "" = "bottom" := by simpa using z4
          rw [if_neg w5b] at hab
          exact ev_wint (i := 6) rfl S3 (by omega) W.short hab.1
        have e24 := e3.trans e4
        have ha4 := ex_rd e24 ha2
        refine s_retR (eq_cat (eq_cat (eq_is (eq_slice (eq_of (ev_var rfl) ha4) eo_none (eo_some (ev_var rfl))) (cut_to hab0)) (eq_of (ev_var rfl) (ex_rd e24 hb2)) ?_) (eq_is (eq_slice (eq_of (ev_var rfl) ha4) (eo_some (ev_var rfl)) eo_none) (cut_from hab0)) ?_) fun v H5 e5 ⟨p, ev, hp⟩ => ?_
        · rw [List.length_take, List.length_map, List.length_map]; omega
        · rw [List.length_append, List.length_take, List.length_drop, List.length_map, List.length_map]; omega
        subst ev
        refine k p H5 (((e1.trans e2).trans e24).trans e5) ?_
        rw [lb, ← hcut.1, ← hcut.2, List.map_append, List.map_append, List.map_take, List.map_drop]
        exact hp
theorem rearr_two (d : DayD) (p : List Int) : (d.word = "turn" → rearr d p = p.reverse) ∧ (d.word = "cut" → rearr d p = p.drop d.depth.toNat ++ p.take d.depth.toNat) ∧ (d.word ≠ "turn" → d.word ≠ "cut" → rearr d p = p) := by
  refine ⟨fun z => by rw [rearr, if_pos z], fun z => by rw [rearr, if_neg (by rw [z]; decide), if_pos z], fun z1 z2 => by rw [rearr, if_neg z1, if_neg z2]⟩
theorem ok_next (F : Fun K "_law_next" "_law_next" sNext f fd) (B : Blt mg) (FA : Fun K "_law_row_at" "_law_row_at" sRowAt fA dA) (bA : Binds K dA ["_law_rows_now", "_law_day_now"] []) (mA : mg "_law_row_at" = some (.ref fA))
    (FB : Fun K "_law_back" "_law_back" sBack fB dB) (bB : Binds K dB ["_law_words", "_law_spots", "_law_heap"] []) (mB : mg "_law_back" = some (.ref fB)) : FnOk P w K mg base CX0 (j + 2) f fd ["_law_rows_now", "_law_state", "_law_lot"] (spNext K) := by
  have GA : FnOk P w K mg base CX0 (j + 1) fA dA ["_law_rows_now", "_law_day_now"] (spRowAt K) := ok_rowAt FA B
  have GB : FnOk P w K mg base CX0 (j + 1) fB dB ["_law_words", "_law_spots", "_law_heap"] (spBack K) := ok_back FB B
  refine F.ok scNext (fun vs H Q E h => ?_) (fun cdv A outer s H vs Q E hr h => ?_)
  · obtain ⟨r, ss, v, i, k, pile, heaps, rfl, _⟩ := h
    rfl
  · obtain ⟨r, ss, v, i, k, pile, heaps, rfl, hS, hR, hv, k0, pz, hz, zz, hno, kk⟩ := h
    obtain ⟨t, u, wp, hvs, rfl, ht, hu, hw, hd⟩ := stL_dat hv
    have hvl : hvs.length = heaps.length := by rw [Dats.len hd, List.length_map]
    obtain ⟨W, hday⟩ := hR.words i
    obtain ⟨W2, hday2⟩ := hR.words (i - (heaps.length : Int))
    have bd := hR.bound i
    obtain ⟨ws, hws⟩ : ∃ ws, ws = Txt.split (rowOf ss i) " " := ⟨_, rfl⟩
    obtain ⟨d, hdd⟩ : ∃ d, d = dAt (dayList ss) i := ⟨_, rfl⟩
    rw [← hws, ← hdd] at W
    rw [← hdd] at bd
    refine ⟨_, (pss_cons (ps_asg (pv 1) (pg_tup rfl (pgs_cons (pg_name (i := 3) scNext.nd rfl (.inl rfl)) (pgs_cons (pg_name (i := 4) scNext.nd rfl (.inl rfl)) (pgs_cons (pg_name (i := 5) scNext.nd rfl (.inl rfl)) pgs_nil)))))
      (pss_cons (ps_par (i := 6) (j := 7) rfl scNext.nd rfl rfl (by decide)  rfl rfl (pa_cons (pe_call GA hr (by rfl) mA FA.kp bA .nil pass0 (pa_cons (pv 0) (pa_cons (pv 3) pa_nil))) (pa_cons (pe_callB call_len_seq (by rfl) B.len PySem.boot_len (pa_cons (pv 5) pa_nil)) pa_nil)) (by rfl))
      (pss_cons (ps_par (i := 8) (j := 4) rfl scNext.nd rfl rfl (by decide)  rfl rfl (pa_cons (pe_slice sl_tupA (pv 4) po_none (po_some (pv 2))) (pa_cons (pe_slice sl_tupA (pv 4) (po_some (pv 2)) po_none) pa_nil)) (by rfl))
      (pss_cons (ps_if (pt_cmpR op_eq (pe_ix ix_list (pv 6) pe_int (fun _ _ => rfl)) pe_str (nomark _)) (pss_one (ps_set (i := 4) scNext.nd rfl (.inl rfl) (pe_revT (pv 4)))) pss_nil)
      (pss_cons (ps_if (pw_and (pt_cmpR op_eq (pe_ix ix_list (pv 6) pe_int (fun _ _ => rfl)) pe_str (nomark _)) (pw_and1 (pt_cmpR op_gt (pe_callB call_len_seq (by rfl) B.len PySem.boot_len (pa_cons (pv 4) pa_nil)) (pe_callTy call_int_str (by rfl) B.int PyProof.Rows.Boot.int (pa_cons (pe_ix ix_list (pv 6) pe_int (fun _ _ => rfl)) pa_nil)) (nomark _)))).pt (pss_one (ps_set (i := 4) scNext.nd rfl (.inl rfl) (pe_op op_catA (pe_slice sl_tupA (pv 4) (po_some (pe_callTy call_int_str (by rfl) B.int PyProof.Rows.Boot.int (pa_cons (pe_ix ix_list (pv 6) pe_int (fun _ _ => rfl)) pa_nil))) po_none) (pe_slice sl_tupA (pv 4) po_none (po_some (pe_callTy call_int_str (by rfl) B.int PyProof.Rows.Boot.int (pa_cons (pe_ix ix_list (pv 6) pe_int (fun _ _ => rfl)) pa_nil))))))) pss_nil)
      (pss_cons (ps_set (i := 5) scNext.nd rfl (.inl rfl) (pe_op op_catA (pv 5) (pe_tup (pa_cons (pv 8) pa_nil))))
      (pss_cons (ps_set (i := 4) scNext.nd rfl (.inl rfl) (pe_call GB hr (by rfl) mB FB.kp bB .nil pass0 (pa_cons (pe_call GA hr (by rfl) mA FA.kp bA .nil pass0 (pa_cons (pv 0) (pa_cons (pe_op op_sub (pv 3) (pv 7)) pa_nil))) (pa_cons (pv 4) (pa_cons (pe_ix ix_tup (pv 5) pe_int (fun _ _ => rfl)) pa_nil)))))
      (pss_one (ps_ret (pe_lst (pa_cons (pe_tup (pa_cons (pe_op op_add (pv 3) pe_int) (pa_cons (pv 4) (pa_cons (pe_slice sl_tupA (pv 5) (po_some pe_int) po_none) pa_nil)))) (pa_cons (pv 8) pa_nil)))))))))))), ?_⟩
    refine ⟨.ref t, rfl, t, _, rfl, .inl ht, rfl, _, _, rfl, _, _, rfl, _, _, rfl, rfl, ?_⟩
    dsimp only
    refine q_parR (R1 := IsW (ws.map V.str)) (R2 := fun _ v => v = V.int (heaps.length : Int)) (isW_mono _) (fun H1 e1 Q1 q1 => ⟨.ref r, rfl, .int i, rfl, r, ss, i, rfl, ex_l e1 hS, hR.two, hR.len100, hR.lens, fun l H3 nl e3 hl => q1 (.ref l) H3 e3 ⟨l, rfl, by rw [hws]; exact hl⟩⟩)
      (er_of (ev_is (ev_lenQ (eq_of (ev_var rfl) hw)) (by rw [hvl])) fun _ _ => rfl) fun v v2 H1 e1 ⟨p, ev, h1⟩ ev2 => ?_
    subst ev ev2
    have hu1 := ex_rd e1 hu
    refine q_parR (R1 := IsT ((pile.take k.toNat).map V.int)) (R2 := IsT ((pile.drop k.toNat).map V.int)) (isT_mono _) (eq_is (eq_slice (eq_of (ev_var rfl) hu1) eo_none (eo_some (ev_var rfl))) (by rw [cut_to k0, List.map_take]))
      (eq_is (eq_slice (eq_of (ev_var rfl) hu1) (eo_some (ev_var rfl)) eo_none) (by rw [cut_from k0, List.map_drop])) fun v v2 H2 e2 ⟨tk, ev, htk⟩ ⟨sp, ev2, hsp⟩ => ?_
    subst ev ev2
    have S2 : SqL K H2 p (ws.map V.str) := sq_of (e2 _ _ h1)
    obtain ⟨ly, hly⟩ : ∃ ly, ly = pile.drop k.toNat := ⟨_, rfl⟩
    have lyz : ly.length ≤ 10 := by rw [hly, List.length_drop]; omega
    rw [← hly] at hsp
    obtain ⟨c1, c2, c3⟩ := rearr_two d ly
    -- turn
    refine q_ifR (b := decide (V.str d.word = V.str "turn")) (v0 := .ref sp) (R := IsT ((if d.word = "turn" then ly.reverse else ly).map V.int)) (et_test (ev_op (ev_is (ev_word (i := 0) rfl S2 (by have := W.one; omega)) (by rw [W.w0])) ev_c (rv_eq rfl)))
      (fun z => eq_is (eq_rev (eq_of (ev_var rfl) hsp)) (by rw [if_pos (by simpa using z), List.map_reverse])) rfl (fun z H3 e3 => ⟨sp, rfl, by rw [if_neg (by simpa using z)]; exact ex_rd e3 hsp⟩) fun v H3 e3 ⟨sp2, ev, hsp2⟩ => ?_
    subst ev
    have S3 : SqL K H3 p (ws.map V.str) := ex_l e3 S2
    obtain ⟨l2, hl2⟩ : ∃ l2, l2 = (if d.word = "turn" then ly.reverse else ly) := ⟨_, rfl⟩
    have l2z : l2.length = ly.length := by
      rw [hl2]
      split
      · rw [List.length_reverse]
      · rfl
    rw [← hl2] at hsp2
    -- cut
    refine q_ifR (b := decide (V.str d.word = V.str "cut") && decide (d.word = "cut" → d.depth < (ly.length : Int))) (v0 := .ref sp2) (R := IsT ((rearr d ly).map V.int)) (et_and (et_test (ev_op (ev_is (ev_word (i := 0) rfl S3 (by have := W.one; omega)) (by rw [W.w0])) ev_c (rv_eq rfl))) (fun z => ?_)) (fun z => ?_) rfl (fun z H4 e4 => ⟨sp2, rfl, ?_⟩) fun v H4 e4 ⟨sp3, ev, hsp3⟩ => ?_
    · have wc : d.word = "cut" := by simpa using z
      obtain ⟨g2, gi⟩ := W.cut wc
      exact et_is (et_test (ev_op (ev_is (ev_lenQ (eq_of (ev_var rfl) hsp2)) (by rw [List.length_map, l2z])) (ev_wint (i := 1) rfl S3 (by omega) W.short gi) rv_I0)) (by simp [wc])
    · simp only [Bool.and_eq_true, decide_eq_true_eq] at z
      have wc : d.word = "cut" := by simpa using z.1
      obtain ⟨g2, gi⟩ := W.cut wc
      have e9 : l2 = ly := by rw [hl2, if_neg (by rw [wc]; decide)]
      rw [e9] at hsp2
      refine eq_is (eq_cat (eq_is (eq_slice (eq_of (ev_var rfl) hsp2) (eo_some (ev_wint (i := 1) rfl S3 (by omega) W.short gi)) eo_none) (cut_from bd.2.1)) (eq_is (eq_slice (eq_of (ev_var rfl) hsp2) eo_none (eo_some (ev_wint (i := 1) rfl S3 (by omega) W.short gi))) (cut_to bd.2.1)) ?_) ?_
      · rw [List.length_drop, List.length_take, List.length_map]; omega
      · rw [c2 wc, List.map_append, List.map_drop, List.map_take]
    · have e9 : l2 = rearr d ly := by
        by_cases wt : d.word = "turn"
        · rw [hl2, if_pos wt, c1 wt]
        · rw [hl2, if_neg wt]
          by_cases wc : d.word = "cut"
          · simp only [wc, decide_true, Bool.true_and, decide_eq_false_iff_not, true_implies] at z
            have dz : ly.length ≤ d.depth.toNat := by
              have := bd.2.1
              simp at z
              omega
            rw [c2 wc, List.drop_eq_nil_of_le dz, List.take_of_length_le dz]
            rfl
          · exact (c3 wt wc).symm
      rw [← e9]
      exact ex_rd e4 hsp2
    subst ev
    have e04 := ((e1.trans e2).trans e3).trans e4
    have htk4 := ex_rd (e3.trans e4) htk
    -- heaps
    refine q_asgR (R := IsT (hvs ++ [V.ref tk])) (eq_cat (eq_of (ev_var rfl) (ex_rd e04 hw)) (eq_tup (xs := [.ref tk]) (ea_cons (ev_var rfl) ea_nil) (Nat.le_of_ble_eq_true rfl)) (by rw [hvl]; show heaps.length + 1 ≤ 100000; omega)) fun v H5 e5 ⟨hp, ev, hhp⟩ => ?_
    subst ev
    have e05 := e04.trans e5
    have hd5 : Dats H5 (hvs ++ [V.ref tk]) ((heaps ++ [pile.take k.toNat]).map intsD) := by
      rw [List.map_append]
      exact dats_app (Dats.mono e05 hd) (.cons (dat_ints (ex_rd e5 htk4)) .nil)
    obtain ⟨x0, hx0, hx0d⟩ := dats_get (i := 0) (d := intsD ((heaps ++ [pile.take k.toNat]).getD 0 [])) hd5 (by
      cases heaps with
      | nil => rfl
      | cons a b => rfl)
    obtain ⟨p0, ep0, hp0⟩ := ints_dat hx0d
    subst ep0
    have rz : (rearr d ly).length ≤ 10 := by rw [rearr_len]; exact lyz
    -- spots
    refine q_asgR (R := IsT ((bdAt (dayList ss) i pile heaps k).1.map V.int)) (fun H6 e6 Q6 q6 => ⟨.ref r, rfl, ?_⟩) fun v H6 e6 ⟨sp4, ev, hsp4⟩ => ?_
    · refine (ev_op (ev_var rfl) (ev_var rfl) rv_I0) H6 (Ex.refl H6) _ fun H7 e7 => ⟨r, ss, i - (heaps.length : Int), rfl, ex_l ((e05.trans e6).trans e7) hS, hR.two, hR.len100, hR.lens, fun l H8 nl e8 hl => ⟨.ref sp3, rfl, ?_⟩⟩
      have e68 := e7.trans e8
      refine (ev_ixQ (i := 0) (v := .ref p0) (eq_of (ev_var rfl) (ex_rd (e6.trans e68) hhp)) ev_c (atI_nat hx0)) H8 (Ex.refl H8) _ fun H9 e9 => ?_
      have e69 := e68.trans e9
      refine ⟨l, sp3, p0, _, dAt (dayList ss) (i - (heaps.length : Int)), rearr d ly, (heaps ++ [pile.take k.toNat]).getD 0 [], rfl, ex_l e9 (sq_of hl), W2, ex_rd ((e5.trans e6).trans e69) hsp3, ex_rd (e6.trans e69) hp0, rz, zz, hno, fun q H10 e10 hq => q6 _ _ (e69.trans e10) ⟨q, rfl, ?_⟩⟩
      unfold bdAt
      rw [← hdd, ← hly]
      exact hq
    subst ev
    have e06 := e05.trans e6
    refine s_retR (er_dlst (ers_dcons (er_dtup (ers_dcons (er_of (ev_op (ev_var rfl) ev_c rv_I0) fun _ _ => .int _) (ers_dcons (er_dvar rfl (dat_ints hsp4)) (ers_dcons (EvR.imp (eq_is (eq_slice (eq_of (ev_var rfl) (ex_rd e6 hhp)) (eo_some ev_c) eo_none) (cut_from (by decide))) fun H7 v e7 ⟨q, ev, hq⟩ => ?_) ers_dnil))) (by show 3 ≤ 1000; decide)) (ers_dcons (er_dvar rfl (dat_ints (ex_rd (e5.trans e6) htk4))) ers_dnil)) (by show 2 ≤ 1000; decide)) fun v H7 e7 hv7 => kk v H7 (e06.trans e7) hv7
    subst ev
    exact .tup hq (by
      have := dats_drop 1 (Dats.mono (e6.trans e7) hd5)
      rw [← List.map_drop] at this
      exact this)
end
end PW
namespace PW
open PySem PySem.Spec PyProof.Rows L2 Evl
abbrev sPath : Stmt := top 83
theorem scPath : FnScope ["_law_rows_now", "_law_lots", "_law_states", "_law_used_now", "_law_lot", "_law_state", "_law_taken"] ["_law_rows_now", "_law_lots"] (defScope sPath) := ⟨rfl, rfl, rfl, by decide +kernel, rfl, by decide +kernel, by decide +kernel⟩
abbrev sSomeChoices : Stmt := top 85
theorem scSomeChoices : FnScope ["_law_spring_here", "_law_rows_now", "_law_most_now", "_law_state", "_law_found", "_law_k", "_law_some"] ["_law_spring_here", "_law_rows_now", "_law_most_now"] (defScope sSomeChoices) := ⟨rfl, rfl, rfl, by decide +kernel, rfl, by decide +kernel, by decide +kernel⟩
/-! ### runs of days -/
def runs (dd : List DayD) : List PSt → List Int → List PSt
  | ss, [] => ss
  | ss, k :: ks => runs dd (ss ++ [nextSt dd ss k]) ks
def takes (dd : List DayD) : List PSt → List Int → List (List Int)
  | _, [] => []
  | ss, k :: ks => (curSt ss).pile.take k.toNat :: takes dd (ss ++ [nextSt dd ss k]) ks
def LetR (dd : List DayD) : List PSt → List Int → Prop
  | _, [] => True
  | ss, k :: ks => isLet (letsNow ss dd) (some k) = true ∧ LetR dd (ss ++ [nextSt dd ss k]) ks
theorem runs_app (dd : List DayD) (k : Int) : ∀ (ks : List Int) (ss : List PSt), runs dd ss (ks ++ [k]) = runs dd ss ks ++ [nextSt dd (runs dd ss ks) k]
  | [], _ => rfl
  | j :: ks, ss => runs_app dd k ks (ss ++ [nextSt dd ss j])
theorem letR_app (dd : List DayD) (k : Int) : ∀ (ks : List Int) (ss : List PSt), LetR dd ss ks → isLet (letsNow (runs dd ss ks) dd) (some k) = true → LetR dd ss (ks ++ [k])
  | [], _, _, h => ⟨h, True.intro⟩
  | j :: ks, ss, ⟨a, b⟩, h => ⟨a, letR_app dd k ks (ss ++ [nextSt dd ss j]) b h⟩
theorem runs_len (dd : List DayD) : ∀ (ks : List Int) (ss : List PSt), (runs dd ss ks).length = ss.length + ks.length
  | [], ss => rfl
  | j :: ks, ss => by
    show (runs dd (ss ++ [nextSt dd ss j]) ks).length = _
    rw [runs_len dd ks]
    simp only [List.length_append, List.length_cons, List.length_nil]
    omega
theorem toNat_mod (a b : Nat) : ((a : Int) % (b : Int)).toNat = a % b := by
  have h : ((a % b : Nat) : Int) = (a : Int) % (b : Int) := by simp
  rw [← h]
  exact Int.toNat_natCast _
theorem dAt_row (dd : List DayD) (ss : List PSt) : dAt dd ((ss.length - 1 : Nat) : Int) = dd.getD (rowIx ss dd) dayNone := by
  unfold dAt rowIx
  rw [toNat_mod]
theorem lets_dAt (dd : List DayD) (ss : List PSt) : letsNow ss dd = letsOf (dAt dd ((ss.length - 1 : Nat) : Int)) ((curSt ss).pile.length : Int) := by
  unfold letsNow
  rw [dAt_row]
theorem next_bd (dd : List DayD) (ss : List PSt) (k : Int) : (nextSt dd ss k).pile = (bdAt dd ((ss.length - 1 : Nat) : Int) (curSt ss).pile (curSt ss).heaps k).1 ∧ (nextSt dd ss k).heaps = (bdAt dd ((ss.length - 1 : Nat) : Int) (curSt ss).pile (curSt ss).heaps k).2 := by
  refine ⟨?_, rfl⟩
  show (behindDay dd (rowIx ss dd) (curSt ss).pile (curSt ss).heaps k).1 = _
  unfold behindDay bdAt
  rw [dAt_row]
  have e1 : dd.getD (takenIx dd.length (rowIx ss dd) (curSt ss).heaps.length) dayNone = dAt dd (((ss.length - 1 : Nat) : Int) - ((curSt ss).heaps.length : Int)) := by
    unfold dAt takenIx rowIx
    have e2 : ((((ss.length - 1) % dd.length : Nat) : Int) + 1 - (((curSt ss).heaps.length + 1 : Nat) : Int)) % (dd.length : Int) = (((ss.length - 1 : Nat) : Int) - ((curSt ss).heaps.length : Int)) % (dd.length : Int) := by
      have h : (((ss.length - 1) % dd.length : Nat) : Int) = ((ss.length - 1 : Nat) : Int) % (dd.length : Int) := by simp
      have h2 : ((ss.length - 1 : Nat) : Int) % (dd.length : Int) + 1 - (((curSt ss).heaps.length + 1 : Nat) : Int) = ((ss.length - 1 : Nat) : Int) % (dd.length : Int) - ((curSt ss).heaps.length : Int) := by omega
      rw [h, h2]
      exact Int.emod_sub_emod _ _ _
    rw [e2]
  show laidBack (dd.getD _ dayNone) _ _ = _
  rw [e1]
/-- what holds of a pile in a run of the law -/
structure Inn (rows : List Str) (ss : List PSt) : Prop where
  pos : 0 < ss.length
  tot : total (curSt ss) ≤ 10
  hl : (curSt ss).heaps.length ≤ 2
  us : (curSt ss).uses.length ≤ 10
  qu : ∀ (j : Nat) (h : List Int), (curSt ss).heaps[j]? = some h → (dAt (dayList rows) (((ss.length - 1 : Nat) : Int) - ((curSt ss).heaps.length : Int) + (j : Int))).word ≠ "take" → h = []
theorem Inn.pile {rows : List Str} {ss : List PSt} (h : Inn rows ss) : (curSt ss).pile.length ≤ 10 := by
  have := h.tot
  unfold total at this
  omega
theorem Inn.fit {rows : List Str} {ss : List PSt} (h : Inn rows ss) : Fit (curSt ss) := ⟨by have := h.tot; omega, by have := h.hl; omega, by have := h.us; omega⟩
theorem let_zero {rows : List Str} (r : RowsM rows) {ss : List PSt} {k : Int} (hl : isLet (letsNow ss (dayList rows)) (some k) = true) (hw : (dAt (dayList rows) ((ss.length - 1 : Nat) : Int)).word ≠ "take") : k = 0 := by
  obtain ⟨h1, h2⟩ := (r.words ((ss.length - 1 : Nat) : Int)).1.rest hw
  rw [lets_dAt, letsOf, h1, h2, if_neg (by omega)] at hl
  simp only [isLet, Bool.and_eq_true, decide_eq_true_eq] at hl
  split at hl <;> omega
theorem let_pos {rows : List Str} (r : RowsM rows) {ss : List PSt} {k : Int} (hl : isLet (letsNow ss (dayList rows)) (some k) = true) : 0 ≤ k ∧ k ≤ ((curSt ss).pile.length : Int) := by
  have b := r.bound ((ss.length - 1 : Nat) : Int)
  rw [lets_dAt, letsOf] at hl
  split at hl
  · cases hl
  · simp only [isLet, Bool.and_eq_true, decide_eq_true_eq] at hl
    split at hl <;> omega
theorem Inn.head {rows : List Str} {ss : List PSt} (r : RowsM rows) (h : Inn rows ss) {k : Int} (hl : isLet (letsNow ss (dayList rows)) (some k) = true) :
    (((curSt ss).heaps ++ [(curSt ss).pile.take k.toNat]).getD 0 []).length ≤ 10 ∧ ((dAt (dayList rows) (((ss.length - 1 : Nat) : Int) - ((curSt ss).heaps.length : Int))).word ≠ "take" → ((curSt ss).heaps ++ [(curSt ss).pile.take k.toNat]).getD 0 [] = []) := by
  have hp := h.pile
  have ht := h.tot
  have hq := h.qu
  cases e : (curSt ss).heaps with
  | nil =>
    refine ⟨?_, fun hw => ?_⟩
    · show ((curSt ss).pile.take k.toNat).length ≤ 10
      rw [List.length_take]
      omega
    · have k0 : k = 0 := let_zero r hl (by simpa [e] using hw)
      subst k0
      rfl
  | cons x xs =>
    refine ⟨?_, fun hw => ?_⟩
    · show x.length ≤ 10
      unfold total at ht
      rw [e] at ht
      simp at ht
      omega
    · have := hq 0 x (by rw [e]; rfl)
      rw [e] at this
      exact this (by simpa using hw)
theorem Inn.next {rows : List Str} {ss : List PSt} (r : RowsM rows) (h : Inn rows ss) {k : Int} (hl : isLet (letsNow ss (dayList rows)) (some k) = true) : Inn rows (ss ++ [nextSt (dayList rows) ss k]) := by
  have hlen : (nextSt (dayList rows) ss k).heaps.length = (curSt ss).heaps.length := next_heaps _ _ _
  have pos := h.pos
  refine ⟨by simp, ?_, ?_, ?_, fun j x hj hw => ?_⟩
  · rw [cur_app, next_total]
    exact h.tot
  · rw [cur_app, hlen]
    exact h.hl
  · rw [cur_app, next_uses]
    exact h.us
  · rw [cur_app] at hj hw
    rw [hlen] at hw
    have hj' : ((curSt ss).heaps ++ [(curSt ss).pile.take k.toNat])[j + 1]? = some x := by
      have e : (nextSt (dayList rows) ss k).heaps = ((curSt ss).heaps ++ [(curSt ss).pile.take k.toNat]).drop 1 := rfl
      rw [e, List.getElem?_drop] at hj
      rw [Nat.add_comm]
      exact hj
    have hlt : j + 1 < (curSt ss).heaps.length + 1 := by
      have := (List.getElem?_eq_some_iff.mp hj').1
      simpa using this
    rw [List.length_append, List.length_singleton] at hw
    by_cases hl2 : j + 1 < (curSt ss).heaps.length
    · rw [List.getElem?_append_left hl2] at hj'
      refine h.qu (j + 1) x hj' ?_
      rw [show ((ss.length - 1 : Nat) : Int) - ((curSt ss).heaps.length : Int) + ((j + 1 : Nat) : Int) = ((ss.length + 1 - 1 : Nat) : Int) - ((curSt ss).heaps.length : Int) + (j : Int) by omega]
      exact hw
    · have e : j + 1 = (curSt ss).heaps.length := by omega
      rw [e, List.getElem?_append_right (Nat.le_refl _), Nat.sub_self] at hj'
      obtain rfl := Option.some.inj hj'
      have k0 : k = 0 := let_zero r hl (by
        rw [show ((ss.length - 1 : Nat) : Int) = ((ss.length + 1 - 1 : Nat) : Int) - ((curSt ss).heaps.length : Int) + (j : Int) by omega]
        exact hw)
      subst k0
      rfl
theorem Inn.zero {rows : List Str} {a b : Int} (hw : firstOf (rows.getD 0 "") = some (a, b)) : Inn rows [st0 a b] := by
  obtain ⟨a2, a10, b0, b2⟩ := first_bounds hw
  have e : curSt [st0 a b] = st0 a b := rfl
  refine ⟨by simp, ?_, ?_, ?_, fun j h hj _ => ?_⟩
  · rw [e]
    unfold total st0
    simp [rangeI]
    omega
  · rw [e]
    show (List.replicate b.toNat []).length ≤ 2
    rw [List.length_replicate]
    omega
  · rw [e]
    show (List.replicate a.toNat (0 : Int)).length ≤ 10
    rw [List.length_replicate]
    omega
  · rw [e] at hj
    have hm := List.mem_of_getElem? hj
    exact List.eq_of_mem_replicate hm
theorem Inn.runs {rows : List Str} (r : RowsM rows) : ∀ {ks : List Int} {ss : List PSt}, Inn rows ss → LetR (dayList rows) ss ks → Inn rows (runs (dayList rows) ss ks)
  | [], _, h, _ => h
  | k :: ks, ss, h, ⟨a, b⟩ => Inn.runs (ks := ks) (ss := ss ++ [nextSt (dayList rows) ss k]) r (h.next r a) b
theorem mem_span {rows : List Str} {ss : List PSt} {k : Int} (h : k ∈ spanI (letsNow ss (dayList rows))) : isLet (letsNow ss (dayList rows)) (some k) = true := by
  cases e : letsNow ss (dayList rows) with
  | none => rw [e] at h; cases h
  | some p =>
    obtain ⟨lo, hi⟩ := p
    rw [e] at h
    obtain ⟨j, hj, rfl⟩ := List.mem_map.mp h
    have := List.mem_range.mp hj
    simp only [isLet, Bool.and_eq_true, decide_eq_true_eq]
    omega
/-- the law's states of a run -/
def stLs (ss : List PSt) : List PyData := ss.mapIdx fun i s => stL (i : Int) s.pile s.heaps
theorem stLs_app (ss : List PSt) (s : PSt) : stLs (ss ++ [s]) = stLs ss ++ [stL (ss.length : Int) s.pile s.heaps] := by
  unfold stLs
  rw [List.mapIdx_concat]
theorem stL_keep {H H' : Hp} {v : V} {i : Int} {pile : List Int} {heaps : List (List Int)} (k : ∀ p xs, Rd H p (.tup xs) → Rd H' p (.tup xs)) (h : Dat H v (stL i pile heaps)) : Dat H' v (stL i pile heaps) := by
  obtain ⟨t, u, w, hv, rfl, ht, hu, hw, hd⟩ := stL_dat h
  exact dat_stL (k _ _ ht) (k _ _ hu) (k _ _ hw) (listInts_keep k hd)
theorem dats_keep {H H' : Hp} : ∀ {ds : List PyData} {vs : List V}, (∀ d ∈ ds, ∀ v, Dat H v d → Dat H' v d) → Dats H vs ds → Dats H' vs ds
  | [], _, _, .nil => .nil
  | d :: ds, _, k, .cons a r => .cons (k d (List.mem_cons_self) _ a) (dats_keep (fun e he => k e (List.mem_cons_of_mem _ he)) r)
theorem stLs_keep {H H' : Hp} {vs : List V} {ss : List PSt} (k : ∀ p xs, Rd H p (.tup xs) → Rd H' p (.tup xs)) (h : Dats H vs (stLs ss)) : Dats H' vs (stLs ss) := dats_keep (fun d hd v hv => by
  obtain ⟨i, hi, rfl⟩ := List.mem_mapIdx.mp hd
  exact stL_keep k hv) h
theorem lastL {H : Hp} {vs : List V} {ss : List PSt} (h : Dats H vs (stLs ss)) (hn : 0 < ss.length) : ∃ v, atI vs (-1) = some v ∧ Dat H v (stL ((ss.length - 1 : Nat) : Int) (curSt ss).pile (curSt ss).heaps) := by
  obtain ⟨l, x, rfl⟩ : ∃ l x, ss = l ++ [x] := ⟨ss.dropLast, ss.getLast (by intro z; rw [z] at hn; simp at hn), (List.dropLast_concat_getLast _).symm⟩
  rw [stLs_app] at h
  have hl := Dats.len h
  rw [List.length_append, List.length_singleton] at hl
  obtain ⟨y, hy, hd⟩ := dats_get (i := (stLs l).length) h (by rw [List.getElem?_append_right (Nat.le_refl _), Nat.sub_self]; rfl)
  refine ⟨y, ?_, ?_⟩
  · unfold atI
    have q : ixN vs.length (-1) = some (stLs l).length := by
      rw [hl]
      unfold ixN
      simp
      omega
    rw [q]
    exact hy
  · rw [cur_app, List.length_append, List.length_singleton, Nat.add_sub_cancel]
    exact hd
/-- tuples stay when a list is written -/
theorem tup_stay {H H' : Hp} {l : Addr} {xs : List V} (hl : H l = some (.lst xs)) (k : But l H H') (p : Addr) (ys : List V) (h : Rd H p (.tup ys)) : Rd H' p (.tup ys) :=
  rd_far hl (fun _ z => by cases z) (fun _ _ z => by cases z) k p ys h
theorem spring_stay {H H' : Hp} {p : Addr} (s : SpringAt H p) (k : But p H H') (q : Addr) (ys : List V) (h : Rd H q (.tup ys)) : Rd H' q (.tup ys) := by
  obtain ⟨a, b, c, hq⟩ := s
  exact tup_stay hq k q ys h
end PW
namespace PW
open PySem PySem.Spec PyProof.Rows L2 Evl
theorem span_len {rows : List Str} (r : RowsM rows) (ss : List PSt) : (spanI (letsNow ss (dayList rows))).length ≤ 10 := by
  have b := r.bound ((ss.length - 1 : Nat) : Int)
  rw [lets_dAt, letsOf]
  split
  · exact Nat.zero_le _
  · show (List.map _ (List.range _)).length ≤ 10
    rw [List.length_map, List.length_range]
    split <;> omega
def spPath : Sp := fun vs H Q _ => ∃ (r t : Addr) (rows : List Str) (ks : List Int) (a b : Int), vs = [.ref r, .ref t] ∧ H r = some (.lst (rows.map V.str)) ∧ RowsM rows ∧ HeadW (rows.getD 0 "") a b ∧ Rd H t (.tup (ks.map V.int)) ∧ LetR (dayList rows) [st0 a b] ks ∧ ks.length ≤ 1000 ∧
  ∀ v H', Ex H H' → Dat H' v (.list [.list (stLs (runs (dayList rows) [st0 a b] ks)), .list ((takes (dayList rows) [st0 a b] ks).map intsD)]) → Q v H'
def spSome : Sp := fun vs H Q _ => ∃ (p r : Addr) (rows : List Str) (a b m : Int), vs = [.ref p, .ref r, .int m] ∧ SpringAt H p ∧ H r = some (.lst (rows.map V.str)) ∧ RowsM rows ∧ HeadW (rows.getD 0 "") a b ∧ 0 ≤ m ∧ m ≤ 100 ∧
  ∀ t ks H', But p H H' → SpringAt H' p → Rd H' t (.tup (ks.map V.int)) → LetR (dayList rows) [st0 a b] ks → ks.length ≤ m.toNat → Q (.ref t) H'
theorem rows_ne {H : Hp} {p r : Addr} {rows : List Str} (sp : SpringAt H p) (hr : H r = some (.lst (rows.map V.str))) : r ≠ p := by
  rintro rfl
  obtain ⟨x, y, z, h⟩ := sp
  rw [hr] at h
  have e : rows.map V.str = [V.int x, V.int y, V.int z] := by injection (Option.some.inj h)
  match rows, e with
  | s :: _, e => cases (List.cons.inj e).1
section
variable {P : Program} {w : World} {K : PySem.W.Frag} {mg : Str → Option Value} {base : Heap} {f fG fN fS fH fA fB : Addr} {fd dG dN dS dH dA dB : FuncData} {j : Nat}
theorem ok_path (GG : FnOk P w K mg base CX0 (j + 2) fG dG ["_law_rows_now"] (spBegin K)) (FG : Fun K "_law_begin" "_law_begin" sBegin fG dG) (bG : Binds K dG ["_law_rows_now"] []) (mG : mg "_law_begin" = some (.ref fG))
    (GN : FnOk P w K mg base CX0 (j + 2) fN dN ["_law_rows_now", "_law_state", "_law_lot"] (spNext K)) (FN : Fun K "_law_next" "_law_next" sNext fN dN) (bN : Binds K dN ["_law_rows_now", "_law_state", "_law_lot"] []) (mN : mg "_law_next" = some (.ref fN))
    (F : Fun K "_law_path" "_law_path" sPath f fd) (B : Blt mg) : FnOk P w K mg base CX0 (j + 3) f fd ["_law_rows_now", "_law_lots"] spPath := by
  refine F.ok scPath (fun vs H Q E h => ?_) (fun cdv A outer s H vs Q E hr h => ?_)
  · obtain ⟨r, t, rows, ks, a, b, rfl, _⟩ := h
    rfl
  · obtain ⟨r, t, rows, ks, a, b, rfl, hrw, hR, hw, ht, hlet, hz, k⟩ := h
    refine ⟨_, (pss_cons (ps_par (i := 2) (j := 3) rfl scPath.nd rfl rfl (by decide)  rfl rfl (pa_cons (pe_lst (pa_cons (pe_call GG hr (by rfl) mG FG.kp bG .nil pass0 (pa_cons (pv 0) pa_nil)) pa_nil)) (pa_cons (pe_lst pa_nil) pa_nil)) (by rfl))
      (pss_cons (ps_for PassesOwn.never rfl (pi_tup (pv 1)) (pg_name (i := 4) scPath.nd rfl (Or.inl rfl)) (pss_cons (ps_asg (pe_call GN hr (by rfl) mN FN.kp bN .nil pass0 (pa_cons (pv 0) (pa_cons (pe_ix ix_list (pv 2) (pe_un un_neg pe_int) (fun _ _ => rfl)) (pa_cons (pv 4) pa_nil)))) (pg_lst rfl (pgs_cons (pg_name (i := 5) scPath.nd rfl (.inl rfl)) (pgs_cons (pg_name (i := 6) scPath.nd rfl (.inl rfl)) pgs_nil))))
      (pss_cons (ps_expr (pe_bm PySem.F.plainAttrs_list PySem.F.slot_list_append PySem.F.type_list_append mt_append (pv 2) (pa_cons (pv 5) pa_nil)))
      (pss_one (ps_expr (pe_bm PySem.F.plainAttrs_list PySem.F.slot_list_append PySem.F.type_list_append mt_append (pv 3) (pa_cons (pv 6) pa_nil)))))))
      (pss_one (ps_ret (pe_lst (pa_cons (pv 2) (pa_cons (pv 3) pa_nil))))))), ?_⟩
    refine ⟨.ref r, rfl, r, rows, a, b, rfl, sq_of hrw, by have := hR.two; omega, hw, fun v H1 e1 hv => ⟨by show 1 ≤ sizeLine; decide, fun l1 n1 => ⟨Nat.zero_le _, fun l2 n2 => ⟨_, _, rfl, ?_⟩⟩⟩⟩
    obtain ⟨H2, eH2⟩ : ∃ H2, H2 = upd (upd H1 l1 (.lst [v])) l2 (.lst []) := ⟨_, rfl⟩
    have x12 : Ex H1 H2 := by rw [eH2]; exact (Ex.new n1).trans (Ex.new n2)
    have n2' : H1 l2 = none := fresh_back (Ex.new n1) n2
    have l12 : l1 ≠ l2 := fun z => by rw [← z, upd_same] at n2; cases n2
    have h1 : H2 l1 = some (.lst [v]) := by rw [eH2, upd_ne l12, upd_same]
    have h2 : H2 l2 = some (.lst []) := by rw [eH2, upd_same]
    rw [← eH2]
    have m1 : H l1 = none := fresh_back e1 n1
    have m2 : H l2 = none := fresh_back e1 n2'
    refine (?_ : tSeq _ _ _ _ _)
    refine ⟨.ref t, rfl, t, rfl, ⟨_, .inl (ex_rd (e1.trans x12) ht)⟩, for_tup (K := K) (a := t) (xs := ks.map V.int)
      (fun i σ H' => ∃ (sv uv : List V) (ss : List PSt) (ud : List (List Int)) (y4 y5 y6 : Option V), σ = [some (.ref r), some (.ref t), some (.ref l1), some (.ref l2), y4, y5, y6] ∧ Ex H H' ∧ H' l1 = some (.lst sv) ∧ H' l2 = some (.lst uv) ∧
        Dats H' sv (stLs ss) ∧ Dats H' uv (ud.map intsD) ∧ Inn rows ss ∧ LetR (dayList rows) ss (ks.drop i) ∧ runs (dayList rows) ss (ks.drop i) = runs (dayList rows) [st0 a b] ks ∧ ud ++ takes (dayList rows) ss (ks.drop i) = takes (dayList rows) [st0 a b] ks ∧ ss.length = i + 1 ∧ ud.length = i)
      ⟨[v], [], [st0 a b], [], none, none, none, rfl, e1.trans x12, h1, h2, .cons (Dat.mono x12 hv) .nil, .nil, Inn.zero hw.f, hlet, rfl, rfl, rfl, rfl⟩ (fun i σ H' _ ⟨_, _, _, _, _, _, _, _, ex, _⟩ => .inl (ex_rd ex ht)) ?_ ?_⟩
    · rintro i y σ H' hi ⟨sv, uv, ss, ud, y4, y5, y6, rfl, ex, q1, q2, d1, d2, inn, let_, hrun, htk, sl, ul⟩
      obtain ⟨kk, hkk, rfl⟩ : ∃ kk, ks[i]? = some kk ∧ V.int kk = y := by
        rw [List.getElem?_map] at hi
        exact Option.map_eq_some_iff.mp hi
      have hlt := (List.getElem?_eq_some_iff.mp hkk).1
      have hdrop : ks.drop i = kk :: ks.drop (i + 1) := by
        rw [List.drop_eq_getElem_cons hlt]
        congr 1
        exact Option.some.inj ((List.getElem?_eq_getElem hlt).symm.trans hkk)
      rw [hdrop] at let_ hrun htk
      obtain ⟨c1, c2⟩ := let_
      obtain ⟨lv, hat, hlv⟩ := lastL d1 inn.pos
      obtain ⟨k0, kp⟩ := let_pos hR c1
      obtain ⟨z1, z2⟩ := inn.head hR c1
      refine ⟨.ref r, rfl, ?_⟩
      refine (ev_op (ev_var rfl) (ev_un ev_c ru_neg) (rv_ixL (sq_of q1) hat)) H' (Ex.refl H') _ fun H3 e3 => ⟨.int kk, rfl, r, rows, lv, _, kk, _, _, rfl, sq_of (e3 _ _ (ex _ _ hrw)), hR, Dat.mono e3 hlv, k0, inn.pile, by have := inn.hl; omega, z1, z2, fun v1 H5 e5 hv1 => ?_⟩
      obtain ⟨lr, xs, rfl, hlr, hxs⟩ := lst_dat hv1
      obtain ⟨u0, u1, rfl, x0, x1⟩ := two_dat hxs
      refine ⟨lr, _, rfl, .inl hlr, rfl, _, _, rfl, _, _, rfl, rfl, ?_⟩
      dsimp only
      have e35 := e3.trans e5
      have q15 := e35 _ _ q1
      have q25 := e35 _ _ q2
      have svl : sv.length = i + 1 := by
        rw [Dats.len d1]
        unfold stLs
        rw [List.length_mapIdx, sl]
      have uvl : uv.length = i := by rw [Dats.len d2, List.length_map, ul]
      refine q_app q15 (ev_var rfl) (ev_var rfl) (by omega) fun H6 e6 => ?_
      obtain ⟨H7, eH7⟩ : ∃ H7, H7 = upd H6 l1 (.lst (sv ++ [u0])) := ⟨_, rfl⟩
      rw [← eH7]
      have q16 := e6 _ _ q15
      have b7 : But l1 H6 H7 := fun c o n e => by rw [eH7, upd_ne n]; exact e
      have q27 : H7 l2 = some (.lst uv) := b7 _ _ l12.symm (e6 _ _ q25)
      have q17 : H7 l1 = some (.lst (sv ++ [u0])) := by rw [eH7]; exact upd_same
      refine s_app q27 (ev_var rfl) (ev_var rfl) (by omega) fun H8 e8 => ?_
      have q28 := e8 _ _ q27
      have b9 : But l2 H8 (upd H8 l2 (.lst (uv ++ [u1]))) := fun c o n e => (upd_ne n).trans e
      have keep : ∀ p ys, Rd H5 p (.tup ys) → Rd (upd H8 l2 (.lst (uv ++ [u1]))) p (.tup ys) := fun p ys h => tup_stay q28 b9 _ _ (ex_rd e8 (tup_stay q16 b7 _ _ (ex_rd e6 h)))
      have i1 : ((ss.length - 1 : Nat) : Int) + 1 = (ss.length : Int) := by have := inn.pos; omega
      rw [i1] at x0
      obtain ⟨nb1, nb2⟩ := next_bd (dayList rows) ss kk
      rw [← nb1, ← nb2] at x0
      have exx : Ex H (upd H8 l2 (.lst (uv ++ [u1]))) := Ex.mut (((((ex.trans e35).trans e6).mut m1).trans (eH7 ▸ e8)) : Ex H H8) m2
      refine ⟨_, _, ss ++ [nextSt (dayList rows) ss kk], ud ++ [(curSt ss).pile.take kk.toNat], _, _, _, rfl, exx, b9 _ _ l12 (e8 _ _ q17), upd_same, ?_, ?_, inn.next hR c1, c2, hrun, ?_, by rw [List.length_append, sl]; rfl, by rw [List.length_append, ul]; rfl⟩
      · rw [stLs_app]
        exact dats_app (stLs_keep keep (Dats.mono e35 d1)) (.cons (stL_keep keep x0) .nil)
      · rw [List.map_append]
        exact dats_app (listInts_keep keep (Dats.mono e35 d2)) (.cons (ints_keep keep x1) .nil)
      · rw [List.append_assoc]
        exact htk
    · rintro σ H' ⟨sv, uv, ss, ud, y4, y5, y6, rfl, ex, q1, q2, d1, d2, inn, let_, hrun, htk, sl, ul⟩
      rw [List.length_map, List.drop_length] at hrun htk
      have hrun' : ss = runs (dayList rows) [st0 a b] ks := hrun
      have htk' : ud = takes (dayList rows) [st0 a b] ks := by
        rw [← htk]
        exact (List.append_nil _).symm
      refine s_retL (el_lst (ea_cons (ev_var rfl) (ea_cons (ev_var rfl) ea_nil)) (Nat.le_of_ble_eq_true rfl)) fun l3 H3 n3 e3 h3 => k _ H3 (ex.trans e3) ?_
      rw [← hrun', ← htk']
      exact .lst (.inl h3) (.cons (.lst (.inl (e3 _ _ q1)) (Dats.mono e3 d1)) (.cons (.lst (.inl (e3 _ _ q2)) (Dats.mono e3 d2)) .nil))
theorem ok_some {fD fO : Addr} {dD dO : FuncData} (GG : FnOk P w K mg base CX0 (j + 2) fG dG ["_law_rows_now"] (spBegin K)) (FG : Fun K "_law_begin" "_law_begin" sBegin fG dG) (bG : Binds K dG ["_law_rows_now"] []) (mG : mg "_law_begin" = some (.ref fG))
    (GN : FnOk P w K mg base CX0 (j + 2) fN dN ["_law_rows_now", "_law_state", "_law_lot"] (spNext K)) (FN : Fun K "_law_next" "_law_next" sNext fN dN) (bN : Binds K dN ["_law_rows_now", "_law_state", "_law_lot"] []) (mN : mg "_law_next" = some (.ref fN))
    (GS : FnOk P w K mg base CX0 (j + 2) fS dS ["_law_rows_now", "_law_state"] (spSpan K)) (FS : Fun K "_law_span" "_law_span" sSpan fS dS) (bS : Binds K dS ["_law_rows_now", "_law_state"] []) (mS : mg "_law_span" = some (.ref fS))
    (F : Fun K "_law_some_choices" "_law_some_choices" sSomeChoices f fd) (B : Blt mg) (W : Drw K mg fD fO dD dO) : FnOk P w K mg base CX0 (j + 3) f fd ["_law_spring_here", "_law_rows_now", "_law_most_now"] spSome := by
  have GD : FnOk P w K mg base CX0 (j + 2) fD dD ["_law_spring_here", "_law_size"] spDraw := ok_draw W.D B
  have GO : FnOk P w K mg base CX0 (j + 2) fO dO ["_law_spring_here", "_law_menu"] (spOf K) := ok_of W.O B W.D W.bD W.mD
  refine F.ok scSomeChoices (fun vs H Q E h => ?_) (fun cdv A outer s H vs Q E hr h => ?_)
  · obtain ⟨p, r, rows, a, b, m, rfl, _⟩ := h
    rfl
  · obtain ⟨p, r, rows, a, b, m, rfl, sp, hrw, hR, hw, hm0, hm1, k⟩ := h
    have hu : A.units + 3 + 64 < cLine := hr.units
    have rp := rows_ne sp hrw
    refine ⟨_, (pss_cons (ps_par (i := 3) (j := 4) rfl scSomeChoices.nd rfl rfl (by decide)  rfl rfl (pa_cons (pe_call GG hr (by rfl) mG FG.kp bG .nil pass0 (pa_cons (pv 1) pa_nil)) (pa_cons (pe_lst pa_nil) pa_nil)) (by rfl))
      (pss_cons (ps_for PassesOwn.never rfl (pi_range1 rfl B.range (pa_cons (pe_call GD hr (by rfl) W.mD W.D.kp W.bD .nil pass0 (pa_cons (pv 0) (pa_cons (pe_op op_add (pv 2) pe_int) pa_nil))) pa_nil)) (pg_name (i := 5) scSomeChoices.nd rfl (Or.inl rfl)) (pss_cons (ps_set (i := 6) scSomeChoices.nd rfl (.inl rfl) (pe_call GS hr (by rfl) mS FS.kp bS .nil pass0 (pa_cons (pv 1) (pa_cons (pv 3) pa_nil))))
      (pss_cons (ps_if (pt_cmpR (op_eqD hu) (pv 6) (pe_lst pa_nil) (nomark _)) (pss_one (ps_ret (pe_callTy call_tuple_of (by rfl) B.tuple bTuple (pa_cons (pv 4) pa_nil)))) pss_nil)
      (pss_cons (ps_expr (pe_bm PySem.F.plainAttrs_list PySem.F.slot_list_append PySem.F.type_list_append mt_append (pv 4) (pa_cons (pe_call GO hr (by rfl) W.mO W.O.kp W.bO .nil pass0 (pa_cons (pv 0) (pa_cons (pv 6) pa_nil))) pa_nil)))
      (pss_one (ps_set (i := 3) scSomeChoices.nd rfl (.inl rfl) (pe_ix ix_list (pe_call GN hr (by rfl) mN FN.kp bN .nil pass0 (pa_cons (pv 1) (pa_cons (pv 3) (pa_cons (pe_ix ix_list (pv 4) (pe_un un_neg pe_int) (fun _ _ => rfl)) pa_nil)))) pe_int (fun _ _ => rfl))))))))
      (pss_one (ps_ret (pe_callTy call_tuple_of (by rfl) B.tuple bTuple (pa_cons (pv 4) pa_nil)))))), ?_⟩
    refine ⟨.ref r, rfl, r, rows, a, b, rfl, sq_of hrw, by have := hR.two; omega, hw, fun v H1 e1 hv => ⟨Nat.zero_le _, fun l nl => ⟨_, _, rfl, ?_⟩⟩⟩
    have el := Ex.new (o := .lst []) nl
    have nl0 : H l = none := fresh_back e1 nl
    have lp : l ≠ p := fun z => (sp.ext e1).some (z ▸ nl)
    have e2 := e1.trans el
    refine (?_ : tSeq _ _ _ _ _)
    refine ⟨.ref p, rfl, ?_⟩
    refine (ev_op (ev_var rfl) ev_c rv_I0) _ (Ex.refl _) _ fun H3 e3 => ⟨p, m + 1, rfl, by omega, by omega, sp.ext (e2.trans e3), fun d H4 d0 d1 b4 s4 => ⟨d, rfl, by omega, by omega, for_range (lo := 0) (n := d.toNat)
      (fun i σ H' => ∃ (v : V) (ss : List PSt) (ks : List Int) (y5 y6 : Option V), σ = [some (.ref p), some (.ref r), some (.int m), some v, some (.ref l), y5, y6] ∧ But p H H' ∧ SpringAt H' p ∧ H' l = some (.lst (ks.map V.int)) ∧ Dat H' v (stL ((ss.length - 1 : Nat) : Int) (curSt ss).pile (curSt ss).heaps) ∧ Inn rows ss ∧ LetR (dayList rows) [st0 a b] ks ∧ runs (dayList rows) [st0 a b] ks = ss ∧ ks.length = i)
      ⟨v, [st0 a b], [], none, none, rfl, (But.of (e2.trans e3)).trans b4, s4, b4 _ _ lp (e3 _ _ upd_same), stL_keep (spring_stay (sp.ext (e2.trans e3)) b4) (Dat.mono (el.trans e3) hv), Inn.zero hw.f, True.intro, rfl, rfl⟩ ?_ ?_⟩⟩
    · rintro i σ H' hi ⟨v, ss, ks, y5, y6, rfl, bt, sp', hl, hv', inn, let_, hrun, kl⟩
      have hrw' := bt _ _ rp hrw
      -- some
      refine q_asgE' ⟨.ref r, rfl, v, rfl, r, rows, v, _, _, _, rfl, sq_of hrw', hR, hv', by have := inn.pile; omega, fun l3 H3 n3 e3 h3 => ?_⟩
      rw [← lets_dAt] at h3
      obtain ⟨os, hos⟩ : ∃ os, os = spanI (letsNow ss (dayList rows)) := ⟨_, rfl⟩
      rw [← hos] at h3
      have fin : ∀ {H9 : Hp} {E9 : XK} {D9 : Ends} {σ9 : L2.St}, But p H H9 → SpringAt H9 p → H9 l = some (.lst (ks.map V.int)) → σ9[4]? = some (some (.ref l)) → ks.length ≤ m.toNat → D9.rt = Q → tRet (tCB (fun vs H Q => ∃ p ys, vs = [.ref p] ∧ ((SqL K H p ys ∧ ∀ l, H l = none → Q (.ref l) (upd H l (.tup ys))) ∨ (SqT K H p ys ∧ Q (.ref p) H))) (tCons (tVar 4) tNil)) D9 σ9 H9 := fun {H9 E9 D9 σ9} b9 s9 h9 h4 hle hD => by
        refine ⟨.ref l, h4, l, _, rfl, .inl ⟨sq_of h9, fun t nt => ?_⟩⟩
        rw [hD]
        exact k t ks _ (b9.trans (But.of (Ex.new nt))) (s9.ext (Ex.new nt)) (.inl upd_same) let_ hle
      refine q_when (b := PyData.eqv (.list (os.map PyData.int)) (.list [])) (et_test (ev_eqDL (ev_var rfl) (el_lst ea_nil (Nat.zero_le _)) (.lst (sq_of h3) (dp_ints os)) (fun H4 q e4 h4 => .lst (sq_of h4) .nil) ?_ rfl)) (fun z H4 e4 => ?_) (fun z H4 e4 => ?_)
      · exact shaped_ints os
      · exact fin (E9 := E) (bt.trans (But.of (e3.trans e4))) (sp'.ext (e3.trans e4)) ((e3.trans e4) _ _ hl) rfl (by omega) rfl
      · have osne : os ≠ [] := by
          rintro rfl
          cases z
        have e34 := e3.trans e4
        have hl4 := e34 _ _ hl
        have sp4 := sp'.ext e34
        have h34 := e4 _ _ h3
        have l3p : l3 ≠ p := fun z => sp'.some (z ▸ n3)
        have osl : 0 < os.length := List.length_pos_iff.mpr osne
        refine (?_ : tSeq _ _ _ _ _)
        refine ⟨.ref l, rfl, .inl ⟨rfl, _, sq_of hl4⟩, .ref p, rfl, .ref l3, rfl, p, l3, _, rfl, sq_of h34, l3p, by rw [List.length_map]; exact osl, ?_, sp4, fun x H5 hx b5 s5 => ?_⟩
        · have := span_len hR ss
          rw [List.length_map, hos]
          omega
        obtain ⟨kk, hkk, rfl⟩ := List.mem_map.mp hx
        have c1 : isLet (letsNow ss (dayList rows)) (some kk) = true := mem_span (hos ▸ hkk)
        obtain ⟨k0, kp⟩ := let_pos hR c1
        obtain ⟨z1, z2⟩ := inn.head hR c1
        have hl5 := b5 _ _ lp hl4
        refine ⟨l, _, _, rfl, rfl, hl5, sz_lt (by rw [List.length_map]; omega), ?_⟩
        obtain ⟨H6, eH6⟩ : ∃ H6, H6 = upd H5 l (.lst (ks.map V.int ++ [V.int kk])) := ⟨_, rfl⟩
        rw [← eH6]
        have b6 : But l H5 H6 := fun c o n e => by rw [eH6, upd_ne n]; exact e
        have hl6 : H6 l = some (.lst ((ks ++ [kk]).map V.int)) := by rw [eH6, upd_same, List.map_append]; rfl
        have sp6 : SpringAt H6 p := by
          obtain ⟨x1, x2, x3, hx⟩ := s5
          exact ⟨x1, x2, x3, b6 _ _ lp.symm hx⟩
        have bt6 : But p H H6 := fun c o n e => b6 _ _ (fun z => by rw [z, nl0] at e; cases e) (b5 _ _ n (e34 _ _ (bt _ _ n e)))
        have hv6 : Dat H6 v (stL ((ss.length - 1 : Nat) : Int) (curSt ss).pile (curSt ss).heaps) := stL_keep (fun q ys h => tup_stay hl5 b6 _ _ (spring_stay sp4 b5 _ _ (ex_rd e34 h))) hv'
        refine ⟨.ref r, rfl, v, rfl, ?_⟩
        refine (ev_op (ev_var rfl) (ev_un ev_c ru_neg) (rv_ixL (sq_of hl6) (v := .int kk) ?_)) H6 (Ex.refl H6) _ fun H7 e7 => ⟨r, rows, v, _, kk, _, _, rfl, sq_of (e7 _ _ (bt6 _ _ rp hrw)), hR, Dat.mono e7 hv6, k0, inn.pile, by have := inn.hl; omega, z1, z2, fun v1 H8 e8 hv1 => ?_⟩
        · rw [List.map_append]
          exact atI_last _ _
        obtain ⟨lr, xs, rfl, hlr, hxs⟩ := lst_dat hv1
        obtain ⟨u0, u1, rfl, x0, _⟩ := two_dat hxs
        · refine ⟨lr, _, 0, _, rfl, rfl, .inl hlr, rfl, ?_⟩
          have i1 : ((ss.length - 1 : Nat) : Int) + 1 = (((ss ++ [nextSt (dayList rows) ss kk]).length - 1 : Nat) : Int) := by
            have := inn.pos
            rw [List.length_append, List.length_singleton]
            omega
          rw [i1] at x0
          obtain ⟨nb1, nb2⟩ := next_bd (dayList rows) ss kk
          rw [← nb1, ← nb2] at x0
          have e78 := e7.trans e8
          refine ⟨_, ss ++ [nextSt (dayList rows) ss kk], ks ++ [kk], _, _, rfl, bt6.trans (But.of e78), sp6.ext e78, e78 _ _ hl6, by rw [cur_app]; exact x0, inn.next hR c1, letR_app _ _ _ _ let_ (by rw [hrun]; exact c1), by rw [runs_app, hrun], by rw [List.length_append, kl]; rfl⟩
    · rintro σ H' ⟨v, ss, ks, y5, y6, rfl, bt, sp', hl, hv', inn, let_, hrun, kl⟩
      refine ⟨.ref l, rfl, l, _, rfl, .inl ⟨sq_of hl, fun t nt => k t ks _ (bt.trans (But.of (Ex.new nt))) (sp'.ext (Ex.new nt)) (.inl upd_same) let_ (by omega)⟩⟩
end
end PW
namespace PW
open PySem PySem.Spec PyProof.Rows L2 Evl
/-! ### how often: what the law counts -/
def useCount (used : List (List Int)) (p : Int) : Int := (((List.range used.length).filter fun i => inV (.int p) ((used.getD i []).map V.int)).length : Int)
theorem useCount_app (used : List (List Int)) (u : List Int) (p : Int) : useCount (used ++ [u]) p = useCount used p + (if inV (.int p) (u.map V.int) then 1 else 0) := by
  unfold useCount
  rw [List.length_append, List.length_singleton, List.range_succ, List.filter_append]
  have e1 : (List.range used.length).filter (fun i => inV (.int p) (((used ++ [u]).getD i []).map V.int)) = (List.range used.length).filter (fun i => inV (.int p) ((used.getD i []).map V.int)) := by
    refine List.filter_congr fun i hi => ?_
    have hlt := List.mem_range.mp hi
    rw [List.getD_eq_getElem?_getD, List.getElem?_append_left hlt, ← List.getD_eq_getElem?_getD]
  have e2 : (used ++ [u]).getD used.length [] = u := by
    rw [List.getD_eq_getElem?_getD, List.getElem?_append_right (Nat.le_refl _), Nat.sub_self]
    rfl
  rw [e1, List.length_append]
  simp only [List.filter_cons, List.filter_nil, e2]
  split <;> simp
def usesLaw (a : Int) (used : List (List Int)) : List Int := (List.range a.toNat).map fun (p : Nat) => useCount used (p : Int)
theorem takes_app (dd : List DayD) (k : Int) : ∀ (ks : List Int) (ss : List PSt), takes dd ss (ks ++ [k]) = takes dd ss ks ++ [(curSt (runs dd ss ks)).pile.take k.toNat]
  | [], _ => rfl
  | j :: ks, ss => by
    show _ :: takes dd (ss ++ [nextSt dd ss j]) (ks ++ [k]) = _
    rw [takes_app dd k ks]
    rfl
theorem takes_len (dd : List DayD) : ∀ (ks : List Int) (ss : List PSt), (takes dd ss ks).length = ks.length
  | [], _ => rfl
  | j :: ks, ss => by
    show (takes dd (ss ++ [nextSt dd ss j]) ks).length + 1 = _
    rw [takes_len dd ks]
    rfl
theorem uses_runs (dd : List DayD) (a b : Int) : ∀ (n : Nat) (ks : List Int), ks.length = n → (curSt (runs dd [st0 a b] ks)).uses = usesLaw a (takes dd [st0 a b] ks)
  | 0, ks, h => by
    obtain rfl := List.length_eq_zero_iff.mp h
    show List.replicate a.toNat 0 = _
    unfold usesLaw
    refine List.ext_getElem? fun i => ?_
    rw [List.getElem?_map]
    by_cases hi : i < a.toNat
    · rw [List.getElem?_replicate, if_pos hi, List.getElem?_range hi]
      rfl
    · rw [List.getElem?_replicate, if_neg hi, List.getElem?_eq_none (by rw [List.length_range]; omega)]
      rfl
  | n + 1, ks, h => by
    obtain ⟨l, x, rfl⟩ : ∃ l x, ks = l ++ [x] := ⟨ks.dropLast, ks.getLast (by intro z; rw [z] at h; simp at h), (List.dropLast_concat_getLast _).symm⟩
    have hl : l.length = n := by simpa using h
    have ih := uses_runs dd a b n l hl
    rw [runs_app, cur_app, takes_app]
    show usesNext (curSt (runs dd [st0 a b] l)).uses ((curSt (runs dd [st0 a b] l)).pile.take x.toNat) = _
    unfold usesNext
    rw [ih]
    have len : (usesLaw a (takes dd [st0 a b] l)).length = a.toNat := by unfold usesLaw; rw [List.length_map, List.length_range]
    rw [len]
    show _ = (List.range a.toNat).map _
    refine List.map_congr_left fun p hp => ?_
    have hlt := List.mem_range.mp hp
    rw [useCount_app]
    congr 1
    unfold usesLaw
    rw [List.getD_eq_getElem?_getD, List.getElem?_map, List.getElem?_range hlt]
    rfl
/-! ### small numbers -/
def Sm (ns : List Int) : Prop := ∀ n ∈ ns, 0 ≤ n ∧ n < 100
def SmS (s : PSt) : Prop := Sm s.pile ∧ ∀ h ∈ s.heaps, Sm h
theorem Sm.take {ns : List Int} (h : Sm ns) (k : Nat) : Sm (ns.take k) := fun n hn => h n (List.mem_of_mem_take hn)
theorem Sm.drop {ns : List Int} (h : Sm ns) (k : Nat) : Sm (ns.drop k) := fun n hn => h n (List.mem_of_mem_drop hn)
theorem Sm.app {xs ys : List Int} (a : Sm xs) (b : Sm ys) : Sm (xs ++ ys) := fun n hn => (List.mem_append.mp hn).elim (a n) (b n)
theorem Sm.rev {xs : List Int} (a : Sm xs) : Sm xs.reverse := fun n hn => a n (List.mem_reverse.mp hn)
theorem Sm.rearr {d : DayD} {xs : List Int} (a : Sm xs) : Sm (rearr d xs) := by
  unfold PW.rearr
  split
  · exact a.rev
  · split
    · exact (a.drop _).app (a.take _)
    · exact a
theorem Sm.laid {d : DayD} {xs ys : List Int} (a : Sm xs) (b : Sm ys) : Sm (laidBack d xs ys) := by
  unfold laidBack
  refine ((a.take _).app ?_).app (a.drop _)
  split
  · exact b.rev
  · exact b
theorem SmS.next {dd : List DayD} {ss : List PSt} {k : Int} (h : SmS (curSt ss)) : SmS (nextSt dd ss k) := by
  obtain ⟨h1, h2⟩ := h
  have hh : ∀ x ∈ (curSt ss).heaps ++ [(curSt ss).pile.take k.toNat], Sm x := fun x hx => by
    rcases List.mem_append.mp hx with h | h
    · exact h2 x h
    · rw [List.mem_singleton.mp h]
      exact h1.take _
  refine ⟨Sm.laid (Sm.rearr (h1.drop _)) ?_, fun x hx => hh x (List.mem_of_mem_drop hx)⟩
  have : ((curSt ss).heaps ++ [(curSt ss).pile.take k.toNat]).getD 0 [] ∈ (curSt ss).heaps ++ [(curSt ss).pile.take k.toNat] := by
    cases (curSt ss).heaps with
    | nil => exact List.mem_cons_self
    | cons a b => exact List.mem_cons_self
  exact hh _ this
theorem SmS.zero {a b : Int} (h : a ≤ 100) : SmS (st0 a b) := by
  refine ⟨fun n hn => ?_, fun x hx => ?_⟩
  · obtain ⟨j, hj, rfl⟩ := List.mem_map.mp hn
    have := List.mem_range.mp hj
    omega
  · rw [List.eq_of_mem_replicate hx]
    intro n hn
    cases hn
theorem SmS.runs {dd : List DayD} : ∀ (ks : List Int) (ss : List PSt), SmS (curSt ss) → SmS (curSt (runs dd ss ks)) ∧ ∀ u ∈ takes dd ss ks, Sm u
  | [], _, h => ⟨h, fun _ z => nomatch z⟩
  | k :: ks, ss, h => by
    have q := SmS.runs (dd := dd) ks (ss ++ [nextSt dd ss k]) (by rw [cur_app]; exact h.next)
    refine ⟨q.1, fun u hu => ?_⟩
    rcases List.mem_cons.mp hu with rfl | hu
    · exact h.1.take _
    · exact q.2 u hu
theorem sm_count (used : List (List Int)) (p : Int) (h : used.length < 100) : 0 ≤ useCount used p ∧ useCount used p < 100 := by
  unfold useCount
  have := List.length_filter_le (fun i => inV (.int p) ((used.getD i []).map V.int)) (List.range used.length)
  rw [List.length_range] at this
  omega
theorem sm_uses (a : Int) (used : List (List Int)) (h : used.length < 100) : Sm (usesLaw a used) := fun n hn => by
  obtain ⟨p, _, rfl⟩ := List.mem_map.mp hn
  exact sm_count used p h
theorem ints_all : ∀ {ns : List Int}, Sm ns → PyData.showableAll (ns.map PyData.int) = true ∧ PyData.leavesShortAll 13 (ns.map PyData.int) = true ∧ PyData.weightAll (ns.map PyData.int) ≤ 40 * ns.length ∧ PyData.hasDictAll (ns.map PyData.int) = false
  | [], _ => by simp [PyData.showableAll, PyData.leavesShortAll, PyData.weightAll, PyData.hasDictAll]
  | n :: ns, h => by
    obtain ⟨i1, i2, i3, i4⟩ := ints_all (ns := ns) fun x hx => h x (List.mem_cons_of_mem _ hx)
    obtain ⟨n0, n1⟩ := h n List.mem_cons_self
    obtain ⟨s1, s2⟩ := small_num n0 n1
    have s3 : (PyData.shown (.int n)).length ≤ 13 := by
      have : (PyData.shown (.int n)) = txt n := by simp [PyData.shown]; rfl
      rw [this]
      omega
    have s4 : PyData.weight (.int n) ≤ 39 := by
      have z : ∀ k, k < 100 → PyData.weight (.int ((k : Nat) : Int)) ≤ 39 := by decide +kernel
      have e : ((n.toNat : Nat) : Int) = n := by omega
      have y := z n.toNat (by omega)
      rw [e] at y
      exact y
    simp only [List.map_cons, PyData.showableAll, PyData.leavesShortAll, PyData.weightAll, PyData.hasDictAll, PyData.showable, PyData.leavesShort, PyData.hasDict, i1, i2, i4, Bool.and_true, Bool.or_false, List.length_cons]
    refine ⟨by simpa using s1, by simpa using s3, by omega, trivial⟩
theorem intss_all : ∀ {us : List (List Int)}, (∀ u ∈ us, Sm u ∧ u.length ≤ 100) → PyData.showableAll (us.map intsD) = true ∧ PyData.leavesShortAll 13 (us.map intsD) = true ∧ PyData.weightAll (us.map intsD) ≤ 5000 * us.length ∧ PyData.hasDictAll (us.map intsD) = false ∧ PyData.canLayAll0 (us.map intsD) = true ∧ PyData.depthAll (us.map intsD) ≤ 1
  | [], _ => by simp [PyData.showableAll, PyData.leavesShortAll, PyData.weightAll, PyData.hasDictAll, PyData.canLayAll0, PyData.depthAll]
  | u :: us, h => by
    obtain ⟨i1, i2, i3, i4, i5, i6⟩ := intss_all (us := us) fun x hx => h x (List.mem_cons_of_mem _ hx)
    obtain ⟨hs, hl⟩ := h u List.mem_cons_self
    obtain ⟨j1, j2, j3, j4⟩ := ints_all hs
    have w : PyData.weight (intsD u) ≤ 4999 := by
      unfold intsD
      simp only [PyData.weight]
      omega
    have dp : PyData.depth (intsD u) ≤ 1 := by
      unfold intsD
      simp only [PyData.depth, ints_depth]
      omega
    refine ⟨?_, ?_, ?_, ?_, ?_, ?_⟩
    · simp only [List.map_cons, PyData.showableAll, i1, Bool.and_true]
      exact j1
    · simp only [List.map_cons, PyData.leavesShortAll, i2, Bool.and_true]
      exact j2
    · simp only [List.map_cons, PyData.weightAll, List.length_cons]
      omega
    · simp only [List.map_cons, PyData.hasDictAll, i4, Bool.or_false]
      exact j4
    · simp only [List.map_cons, PyData.canLayAll0, i5, Bool.and_true]
      exact ints_lay u
    · simp only [List.map_cons, PyData.depthAll]
      omega
theorem takes_short {rows : List Str} (r : RowsM rows) : ∀ {ks : List Int} {ss : List PSt}, Inn rows ss → LetR (dayList rows) ss ks → ∀ u ∈ takes (dayList rows) ss ks, u.length ≤ 100
  | [], _, _, _, _, z => nomatch z
  | k :: ks, ss, h, ⟨a, b⟩, u, hu => by
    rcases List.mem_cons.mp hu with rfl | hu
    · have := h.pile
      rw [List.length_take]
      omega
    · exact takes_short (ks := ks) (ss := ss ++ [nextSt (dayList rows) ss k]) r (h.next r a) b u hu
end PW
namespace PW
open PySem PySem.Spec PyProof.Rows L2 Evl
abbrev sWithin : Stmt := top 12
theorem scWithin : FnScope ["value", "least", "most"] ["value", "least", "most"] (defScope sWithin) := ⟨rfl, rfl, rfl, by decide +kernel, rfl, by decide +kernel, by decide +kernel⟩
abbrev sChoices : Stmt := top 36
theorem scChoices : FnScope ["rule", "choices", "sizes", "index", "day"] ["rule", "choices"] (defScope sChoices) := ⟨rfl, rfl, rfl, by decide +kernel, rfl, by decide +kernel, by decide +kernel⟩
abbrev sLedPile : Stmt := top 39
theorem scLedPile : FnScope ["rule", "choices", "pile", "number"] ["rule", "choices"] (defScope sLedPile) := ⟨rfl, rfl, rfl, by decide +kernel, rfl, by decide +kernel, by decide +kernel⟩
abbrev sCourse : Stmt := top 40
theorem scCourse : FnScope ["rule", "choices", "pile", "number"] ["rule", "choices"] (defScope sCourse) := ⟨rfl, rfl, rfl, by decide +kernel, rfl, by decide +kernel, by decide +kernel⟩
theorem eq_star {K : PySem.W.Frag} {σ : L2.St} {H : Hp} {te : TE} {i : Nat} {a : Addr} {xs : List V} {v : V} (h : σ[i]? = some (some (.ref a))) (hx : Rd H a (.tup xs)) (hv : Ev te σ H v) (hz : xs.length ≤ 1000) : EvQ (tTup (StX.tStar K (tVar i) (tCons te tNil))) σ H (xs ++ [v]) := fun H1 e Q q =>
  ⟨.ref a, h, a, xs, rfl, .inl (.inl (ex_rd e hx)), hv H1 e _ fun H2 e2 => ⟨sz_of (by rw [List.length_append]; show xs.length + 1 ≤ 100000; omega), fun r nr => q _ _ (e2.trans (Ex.new nr)) ⟨r, rfl, .inl upd_same⟩⟩⟩
def spWithin : Sp := fun vs H Q _ => ∃ n lo hi : Int, vs = [.int n, .int lo, .int hi] ∧ ∀ H', Ex H H' → Q (.bl (decide (lo ≤ n) && decide (n ≤ hi))) H'
def spChoices (C CD : Addr) : Sp := fun vs H Q _ => ∃ (r t p q dx : Addr) (rows : List Str) (a b : Int) (ds : List V) (ks : List Int), vs = [.ref r, .ref t] ∧ RuleK H C CD r p q dx rows a b ds (dayList rows) ∧ RowsM rows ∧ Rd H t (.tup (ks.map V.int)) ∧ LetR (dayList rows) [st0 a b] ks ∧ ks.length ≤ 1000 ∧ ∀ H', Ex H H' → Q .non H'
def spLedPile (C CD CP : Addr) : Sp := fun vs H Q _ => ∃ (r t p q dx : Addr) (rows : List Str) (a b : Int) (ds : List V) (ks : List Int), vs = [.ref r, .ref t] ∧ RuleK H C CD r p q dx rows a b ds (dayList rows) ∧ RowsM rows ∧ Rd H t (.tup (ks.map V.int)) ∧ LetR (dayList rows) [st0 a b] ks ∧ ks.length ≤ 1000 ∧
  ∀ x l dxp cs H', Ex H H' → PileK H' CP x r l dxp cs (runs (dayList rows) [st0 a b] ks) → Q (.ref x) H'
def spLed (C CD : Addr) (g : List DayD → List PSt → List Int → PyData) : Sp := fun vs H Q _ => ∃ (r t p q dx : Addr) (rows : List Str) (a b : Int) (ds : List V) (ks : List Int), vs = [.ref r, .ref t] ∧ RuleK H C CD r p q dx rows a b ds (dayList rows) ∧ RowsM rows ∧ Rd H t (.tup (ks.map V.int)) ∧ LetR (dayList rows) [st0 a b] ks ∧ ks.length ≤ 1000 ∧
  ∀ v H', Ex H H' → Dat H' v (g (dayList rows) [st0 a b] ks) → Q v H'
def pileOf (dd : List DayD) (ss : List PSt) (ks : List Int) : PyData := intsD (curSt (runs dd ss ks)).pile
def usesOf (dd : List DayD) (ss : List PSt) (ks : List Int) : PyData := intsD (curSt (runs dd ss ks)).uses
def courseOf (dd : List DayD) (ss : List PSt) (ks : List Int) : PyData := .tuple ((takes dd ss ks).map intsD)
theorem runs_total (dd : List DayD) : ∀ (ks : List Int) (ss : List PSt), total (curSt (runs dd ss ks)) = total (curSt ss) ∧ (curSt (runs dd ss ks)).uses.length = (curSt ss).uses.length
  | [], _ => ⟨rfl, rfl⟩
  | k :: ks, ss => by
    have h := runs_total dd ks (ss ++ [nextSt dd ss k])
    rw [cur_app, next_total, next_uses] at h
    exact h
theorem total0 {a b : Int} (h : 0 ≤ a) : total (st0 a b) = a.toNat := by
  unfold total st0
  simp [rangeI]
section
variable {P : Program} {w : World} {K : PySem.W.Frag} {mg : Str → Option Value} {base : Heap} {C CD CP CN CI CL fi fy gr gp ga : Addr} {di dy dr dp da : FuncData} {g : Nat → Addr} {gd : Nat → FuncData} {f fI fW fP fT fL fK fC fLP fCo fU fM : Addr} {fd dI dW dP dT dL dK dC dLP dCo dU dM : FuncData} {j : Nat}
theorem ok_within (GI : FnOk P w K mg base CX0 (j + 1) fI dI ["value"] (spIsInt K)) (FI : Fun K "is_integer" "is_integer" sIsInt fI dI) (bI : Binds K dI ["value"] []) (mI : mg "is_integer" = some (.ref fI)) (F : Fun K "integer_within" "integer_within" sWithin f fd) : FnOk P w K mg base CX0 (j + 2) f fd ["value", "least", "most"] spWithin := by
  refine F.ok scWithin (fun vs H Q E h => ?_) (fun cdv A outer s H vs Q E hr h => ?_)
  · obtain ⟨n, lo, hi, rfl, _⟩ := h
    rfl
  · obtain ⟨n, lo, hi, rfl, k⟩ := h
    refine ⟨_, (pss_one (ps_ret (pe_and (pe_call GI hr (by rfl) mI FI.kp bI .nil pass0 (pa_cons (pv 0) pa_nil)) (pe_one (pe_chain op_le op_le (pv 1) (pv 0) (pv 2)))))), ?_⟩
    exact s_ret (ev_is (ev_andV (a := true) (b := decide (lo ≤ n) && decide (n ≤ hi)) (ev_call (z := .bl true) (ea_cons (ev_var rfl) ea_nil) fun H1 e1 Q1 q1 _ => ⟨.int n, some n, rfl, rfl, fun H2 e2 => q1 H2 e2⟩) (fun _ => ev_chain (ev_var rfl) (ev_var rfl) (ev_var rfl) rv_I0 (fun _ => rv_I0))) (by simp)) fun H1 e1 => k H1 e1
theorem ok_choices (GT : FnOk P w K mg base CX0 (j + 2) fT dT ["number", "lets"] (spIsLet K)) (FT : Fun K "is_let" "is_let" sIsLet fT dT) (bT : Binds K dT ["number", "lets"] []) (mT : mg "is_let" = some (.ref fT))
    (GL : FnOk P w K mg base CX0 (j + 2) fL dL ["day", "lying"] (spLets CD)) (FL : Fun K "numbers_let" "numbers_let" sLets fL dL) (bL : Binds K dL ["day", "lying"] []) (mL : mg "numbers_let" = some (.ref fL))
    (F : Fun K "check_choices" "check_choices" sChoices f fd) (B : Blt mg) (msum : mg "sum" = none) (R : Ru K C) (Y : RuP K C gr gp ga dr dp da) : FnOk P w K mg base CX0 (j + 3) f fd ["rule", "choices"] (spChoices C CD) := by
  have G2 : FnOk P w K mg base CX0 1 gp dp ["self"] (spAsk C (fun _ _ a _ => .int a)) := ok_Plates (j := 0) Y.Fp B R
  have G3 : FnOk P w K mg base CX0 1 ga da ["self"] (spAsk C (fun _ _ _ b => .int b)) := ok_Away (j := 0) Y.Fa B R
  obtain ⟨pp, Pp⟩ := Y.pp
  obtain ⟨pa, Pa⟩ := Y.pa
  refine F.ok scChoices (fun vs H Q E h => ?_) (fun cdv A outer s H vs Q E hr h => ?_)
  · obtain ⟨r, t, p, q, dx, rows, a, b, ds, ks, rfl, _⟩ := h
    rfl
  · obtain ⟨r, t, p, q, dx, rows, a, b, ds, ks, rfl, hk, hR, ht, hlet, hz, k⟩ := h
    have hr2 := hr.mono (j := 2) (by omega)
    obtain ⟨a2, a10, b0, b2⟩ := first_bounds hk.G.head
    obtain ⟨d1, d2, d3⟩ := hk.len
    refine ⟨_, (pss_cons (ps_if (pt_not (pt_val (pe_callB call_isi (by rfl) B.isi bIsi (pa_cons (pv 1) (pa_cons (pe_bltn (v := .ty "tuple") (by rfl) B.tuple bTuple rfl) pa_nil))))) (pss_one ps_never) pss_nil)
      (pss_cons (ps_set (i := 2) scChoices.nd rfl (.inl rfl) (pe_op op_repU (pe_tup (pa_cons pe_int pa_nil)) (pe_prop (pv 0) R.cl Pa G3 hr2 Y.ba .nil pass0 (by rfl))))
      (pss_one (ps_for PassesOwn.never rfl (pi_range1 rfl B.range (pa_cons (pe_callB call_len_seq (by rfl) B.len PySem.boot_len (pa_cons (pv 1) pa_nil)) pa_nil)) (pg_name (i := 3) scChoices.nd rfl (Or.inl rfl)) (pss_cons (ps_set (i := 4) scChoices.nd rfl (.inl rfl) (pe_ix ix_tup (pe_fld (pv 0) rfl) (pe_op op_mod (pv 3) (pe_callB call_len_seq (by rfl) B.len PySem.boot_len (pa_cons (pe_fld (pv 0) rfl) pa_nil))) (fun _ _ => rfl)))
      (pss_cons (ps_if (pt_not (pt_val (pe_call GT hr (by rfl) mT FT.kp bT .nil pass0 (pa_cons (pe_ix ix_tup (pv 1) (pv 3) (fun _ _ => rfl)) (pa_cons (pe_call GL hr (by rfl) mL FL.kp bL .nil pass0 (pa_cons (pv 4) (pa_cons (pe_op op_sub (pe_prop (pv 0) R.cl Pp G2 hr2 Y.bp .nil pass0 (by rfl)) (pe_callB (cr_sumT rfl) (by rfl) msum bSum (pa_cons (pv 2) pa_nil))) pa_nil))) pa_nil))))) (pss_one ps_never) pss_nil)
      (pss_one (ps_set (i := 2) scChoices.nd rfl (.inl rfl) (pe_slice sl_tupA (pe_tup (StX.pa_star (pv 2) (pa_cons (pe_ix ix_tup (pv 1) (pv 3) (fun _ _ => rfl)) pa_nil))) (po_some pe_int) po_none))))))))), ?_⟩
    refine q_when (b := false) (et_is (et_not (et_B (ev_isi (ev_var rfl) ev_c (.ty _) (fun H1 e1 => ty_tup (ex_rd e1 ht)) kit_tuple))) rfl) (fun z => nomatch z) fun _ H1 e1 => ?_
    refine q_asgR (eq_rep (k := b) (eq_tup (xs := [.int 0]) (ea_cons ev_c ea_nil) (Nat.le_of_ble_eq_true rfl)) (ev_ask (ev_var rfl) (hk.ext e1)) (by simp) b0 (by omega) (by decide)) fun v H2 e2 ⟨sz, ev, hsz⟩ => ?_
    subst ev
    rw [flat_one] at hsz
    have e02 := e1.trans e2
    have e03 := e02
    have e3 := Ex.refl H2
    have hkl : (ks.map V.int).length = ks.length := List.length_map ..
    refine ⟨.ref t, rfl, t, ks.map V.int, rfl, .inr (.inl (ex_rd e02 ht)), _, rfl, by omega, by omega, for_range (lo := 0) (n := (((ks.map V.int).length : Nat) : Int).toNat)
      (fun i σ H' => ∃ (sz : Addr) (ss : List PSt) (y3 y4 : Option V), σ = [some (.ref r), some (.ref t), some (.ref sz), y3, y4] ∧ Ex H H' ∧ Rd H' sz (.tup (((curSt ss).heaps.map fun h => (h.length : Int)).map V.int)) ∧ Inn rows ss ∧ LetR (dayList rows) ss (ks.drop i) ∧ ss.length = i + 1 ∧ total (curSt ss) = a.toNat)
      ⟨sz, [st0 a b], none, none, rfl, e03, ?_, Inn.zero hk.G.head, hlet, rfl, total0 (by omega)⟩ ?_ ?_⟩
    · have e : (curSt [st0 a b]).heaps = List.replicate b.toNat [] := rfl
      rw [e, List.map_replicate, List.map_replicate]
      exact ex_rd e3 hsz
    · rintro i σ H' hi ⟨sz, ss, y3, y4, rfl, ex, hsz, inn, hl, sl, tot⟩
      have hlt : i < ks.length := by omega
      rw [List.drop_eq_getElem_cons hlt] at hl
      obtain ⟨c1, c2⟩ := hl
      obtain ⟨k0, kp⟩ := let_pos hR c1
      obtain ⟨kk, hkk⟩ : ∃ kk, kk = ks[i] := ⟨_, rfl⟩
      rw [← hkk] at c1 c2 k0 kp
      rw [show ((0 : Int) + (i : Nat)) = ((i : Nat) : Int) by omega]
      have rlt : rowIx ss (dayList rows) < (dayList rows).length := Nat.mod_lt _ d2
      obtain ⟨pd, hpd, dxd, hday⟩ := day_at hk.dv rlt
      have daysE : ∀ {H9 : Hp} {σ9 : L2.St}, Ex H H9 → σ9[0]? = some (some (.ref r)) → Ev (tFld K (tVar 0) "days") σ9 H9 (.ref q) := fun e9 h0 => ev_fld (ev_var h0) (e9 _ _ hk.ins) R.cl R.nd (ruleF_days p q a b)
      have rix : ((i : Nat) : Int) % (ds.length : Int) = ((rowIx ss (dayList rows) : Nat) : Int) := by
        rw [d1]
        unfold rowIx
        rw [sl, Nat.add_sub_cancel]
        rfl
      refine q_asg (v := .ref pd) (ev_ixQ (i := ((rowIx ss (dayList rows) : Nat) : Int)) (eq_of (daysE ex rfl) (.inl (ex _ _ hk.dy))) (ev_is (ev_op (ev_var rfl) (ev_lenQ (eq_of (daysE ex rfl) (.inl (ex _ _ hk.dy)))) (rv_I (show (0 : Int) < (ds.length : Int) by omega))) (congrArg V.int rix)) hpd) fun H4 e4 => ?_
      have e04 := ex.trans e4
      have chs : ∀ {H9 : Hp} {σ9 : L2.St}, Ex H H9 → σ9[1]? = some (some (.ref t)) → σ9[3]? = some (some (.int ((i : Nat) : Int))) → Ev (tOp (rIxT K) (tVar 1) (tVar 3)) σ9 H9 (.int kk) := fun e9 h1 h3 => ev_ixQ (i := ((i : Nat) : Int)) (eq_of (ev_var h1) (ex_rd e9 ht)) (ev_var h3) (atI_nat (by rw [List.getElem?_map, List.getElem?_eq_getElem hlt, hkk]; rfl))
      have left : (a - (((curSt ss).heaps.map fun h => (h.length : Int)).sum)) = ((curSt ss).pile.length : Int) := by
        have e1 : (((curSt ss).heaps.map fun h => (h.length : Int)).sum) = (((curSt ss).heaps.map List.length).sum : Nat) := by
          induction (curSt ss).heaps with
          | nil => rfl
          | cons x xs ih => simp only [List.map_cons, List.sum_cons, ih]; omega
        rw [e1]
        unfold total at tot
        omega
      refine q_when (b := false) (et_is (et_not (a := true) (et_B (fun H9 e9 Q9 q9 => (chs (e04.trans e9) rfl rfl) H9 (Ex.refl H9) _ fun H5 e5 => ⟨.ref pd, rfl, ?_⟩))) rfl) (fun z => nomatch z) fun _ H5 e5 => ?_
      · have e95 := e9.trans e5
        refine (ev_is (ev_op (ev_ask (ev_var rfl) (hk.ext (e04.trans e95))) (ev_cb (z := .int (((curSt ss).heaps.map fun h => (h.length : Int)).sum)) (ea_cons (ev_var rfl) ea_nil) fun H6 e6 Q6 q6 => ⟨sz, _, rfl, .inl (ex_rd (e4.trans (e95.trans e6)) hsz), q6 H6 (Ex.refl H6)⟩) rv_I0) (congrArg V.int left)) H5 (Ex.refl H5) _ fun H6 e6 => ?_
        refine ⟨pd, _, _, rfl, ⟨dxd, (e04.trans (e95.trans e6)) _ _ hday⟩, fun u H7 e7 hu => ⟨.int kk, u, some kk, _, rfl, rfl, hu, fun H8 e8 => ?_⟩⟩
        have : isLet (letsOf ((dayList rows).getD (rowIx ss (dayList rows)) dayNone) ((curSt ss).pile.length : Int)) (some kk) = true := c1
        rw [this]
        exact q9 H8 (((e5.trans e6).trans e7).trans e8)
      · have e05 := e04.trans e5
        have hl2 := inn.hl
        refine s_asgR (eq_is (eq_slice (eq_star rfl (ex_rd (e4.trans e5) hsz) (chs e05 rfl rfl) (by rw [List.length_map, List.length_map]; omega)) (eo_some ev_c) eo_none) (cut_from (by decide))) fun v H6 e6 ⟨sz2, ev, hsz2⟩ => ?_
        subst ev
        refine ⟨sz2, ss ++ [nextSt (dayList rows) ss kk], _, _, rfl, e05.trans e6, ?_, inn.next hR c1, c2, by rw [List.length_append, sl]; rfl, by rw [cur_app, next_total]; exact tot⟩
        rw [cur_app]
        have e8 : (nextSt (dayList rows) ss kk).heaps = ((curSt ss).heaps ++ [(curSt ss).pile.take kk.toNat]).drop 1 := rfl
        rw [e8, List.map_drop, List.map_drop, List.map_append, List.map_append]
        have e9 : (((curSt ss).pile.take kk.toNat).length : Int) = kk := by
          rw [List.length_take]
          omega
        simp only [List.map_cons, List.map_nil, e9]
        exact hsz2
    · rintro σ H' ⟨sz, ss, y3, y4, rfl, ex, _⟩
      exact k H' ex
end
end PW
namespace PW
open PySem PySem.Spec PyProof.Rows L2 Evl
theorem hide_keep {H H' : Hp} {l p : Addr} (k : ∀ b u, b ≠ p → H b = some u → H' b = some u) : ∀ b u, b ≠ p → hide l H b = some u → hide l H' b = some u := fun b u n e => by
  by_cases z : b = l
  · subst z
    rw [show hide b H b = none from if_pos rfl] at e
    cases e
  · rw [hide_ne z] at e ⊢
    exact k b u n e
theorem stNs_far {H H' : Hp} {l : Addr} {o : HO} (hl : H l = some o) (ne : ∀ xs, o ≠ .tup xs) (nf : ∀ ob xs, o ≠ .frz ob (.tup xs)) (k : ∀ b u, b ≠ l → H b = some u → H' b = some u) : ∀ {vs : List V} {ss : List PSt}, StNs H vs ss → StNs H' vs ss
  | _, _, .nil => .nil
  | _, _, .cons a r => .cons (stN_far hl ne nf k a) (stNs_far hl ne nf k r)
section
variable {K : PySem.W.Frag} {σ : L2.St} {H : Hp} {te : TE} {C CD CN CP r p q dxr : Addr} {rows : List Str} {a b : Int} {ds : List V} {dd : List DayD}
theorem pile_new {Q : VK} (ha : Ev te σ H (.ref r)) (hk : RuleK H C CD r p q dxr rows a b ds dd) (k : ∀ x l dx cs H3, H x = none → H l = none → Ex H H3 → PileK H3 CP x r l dx cs [st0 a b] → Q (.ref x) H3) : tMake CP (spPInit K C CD CN CP) [] E0 (tCons te tNil) σ H Q := by
  refine ha H (Ex.refl H) _ fun H1 e1 => ?_
  have hk1 := hk.ext e1
  intro x dx nx ndx ne
  obtain ⟨H2, eH2⟩ : ∃ H2, H2 = upd (upd H1 dx (.own x)) x (.ins CP dx []) := ⟨_, rfl⟩
  rw [← eH2]
  have x12 : ∀ c o, H1 c = some o → H2 c = some o := fun c o e => by rw [eH2, upd_ne (ne_of_none e nx), upd_ne (ne_of_none e ndx)]; exact e
  have hx2 : H2 x = some (.ins CP dx []) := by rw [eH2]; exact upd_same
  refine ⟨x, dx, .ref r, rfl, hx2, .inl ⟨r, p, q, dxr, rows, a, b, ds, dd, rfl, hk1.ext x12, fun l cs H3 nl keep hp => ⟨rfl, ?_⟩⟩⟩
  have nl1 : H1 l = none := by
    cases hq : H1 l with
    | none => rfl
    | some o => rw [x12 _ _ hq] at nl; cases nl
  exact k x l dx cs H3 (fresh_back e1 nx) (fresh_back e1 nl1) (e1.trans fun c o e => keep c o (ne_of_none e nx) (x12 _ _ e)) hp
/-- a day that is let -/
theorem day_go {CI CL : Addr} {Q : VK} {x l dx : Addr} {cs : List V} {ss : List PSt} {ta : TE} {tb : TE} {kk : Int} (ha : Ev ta σ H (.ref x)) (hb : Ev tb σ H (.int kk)) (hp : PileK H CP x r l dx cs ss) (hk : RuleK H C CD r p q dxr rows a b ds dd) (pos : 0 < ss.length) (sl : ss.length ≤ 10000) (fit : Fit (curSt ss))
    (hlet : isLet (letsNow ss dd) (some kk) = true) (k : ∀ u c H', But l H H' → PileK H' CP x r l dx (cs ++ [c]) (ss ++ [nextSt dd ss kk]) → Dat H' u (intsD ((curSt ss).pile.take kk.toNat)) → Q u H') : tMeth CP "day" (spDayP K C CD CP CI CL) [] E0 ta (tCons tb tNil) σ H Q := by
  refine ha H (Ex.refl H) _ fun H1 e1 => ⟨x, dx, _, rfl, e1 _ _ hp.ins, pileF_day r l, ?_⟩
  refine hb H1 e1 _ fun H2 e2 => ?_
  have e02 := e1.trans e2
  refine ⟨x, r, l, dx, p, q, dxr, cs, ss, rows, a, b, ds, dd, .int kk, some kk, rfl, hp.ext e02, pos, sl, fit.small, hk.ext e02, rfl, ?_⟩
  show (if isLet (letsNow ss dd) (some kk) = true then _ else _)
  rw [if_pos hlet]
  intro uu c H5 far hp5 hd5
  exact k uu c H5 (fun c o n e => far c o n (e02 _ _ e)) hp5 hd5
end
theorem q_two {σ : L2.St} {H : Hp} {te : TE} {v : V} {D : Ends} {tz : TS} {i j : Nat} (h : Ev te σ H v) (k : ∀ H1, Ex H H1 → tz D ((σ.set i (some v)).set j (some v)) H1) : tSeq (tTwo i j te) tz D σ H := h H (Ex.refl H) _ fun H1 e => k H1 e
theorem drop_cons {ks : List Int} {i : Nat} {kk : Int} (h : ks[i]? = some kk) : ks.drop i = kk :: ks.drop (i + 1) := by
  obtain ⟨hlt, he⟩ := List.getElem?_eq_some_iff.mp h
  rw [List.drop_eq_getElem_cons hlt, he]
theorem runs_uses {dd : List DayD} (ks : List Int) (ss : List PSt) : (curSt (runs dd ss ks)).uses.length = (curSt ss).uses.length := (runs_total dd ks ss).2
section
variable {P : Program} {w : World} {K : PySem.W.Frag} {mg : Str → Option Value} {base : Heap} {C CD CP CN CI CL fi fy gr gp ga : Addr} {di dy dr dp da : FuncData} {g : Nat → Addr} {gd : Nat → FuncData} {f fI fW fP fT fL fK fC fLP fCo fU fM : Addr} {fd dI dW dP dT dL dK dC dLP dCo dU dM : FuncData} {j : Nat}
theorem ok_ledpile (GC : FnOk P w K mg base CX0 7 fC dC ["rule", "choices"] (spChoices C CD)) (FC : Fun K "check_choices" "check_choices" sChoices fC dC) (bC : Binds K dC ["rule", "choices"] []) (mC : mg "check_choices" = some (.ref fC))
    (F : Fun K "led_pile" "led_pile" sLedPile f fd) (PA : PlA P w K mg base C CD CP CN CI CL fi fy di dy g gd) : FnOk P w K mg base CX0 8 f fd ["rule", "choices"] (spLedPile C CD CP) := by
  refine F.ok scLedPile (fun vs H Q E h => ?_) (fun cdv A outer s H vs Q E hr h => ?_)
  · obtain ⟨r, t, p, q, dx, rows, a, b, ds, ks, rfl, _⟩ := h
    rfl
  · obtain ⟨r, t, p, q, dxr, rows, a, b, ds, ks, rfl, hk, hR, ht, hlet, hz, k⟩ := h
    have hr7 : Room 7 _ := hr
    have hr6 := hr.mono (j := 6) (by omega)
    refine ⟨_, (pss_cons (ps_set (i := 2) scLedPile.nd rfl (.inl rfl) (pe_make PA.M PA.Gi hr7 (by rfl) PA.m PA.bi .nil (E := E0) passL (pa_cons (pv 0) pa_nil)))
      (pss_cons (ps_expr (pe_call GC hr (by rfl) mC FC.kp bC .nil pass0 (pa_cons (pv 0) (pa_cons (pv 1) pa_nil))))
      (pss_cons (ps_for PassesOwn.never rfl (pi_tup (pv 1)) (pg_name (i := 3) scLedPile.nd rfl (Or.inl rfl)) (pss_one (ps_expr (pe_meth (pv 2) PA.PC.cl PA.hy PA.Gy hr6 PA.by_ .nil (E := E0) passL (pa_cons (pv 3) pa_nil)))))
      (pss_one (ps_ret (pv 2)))))), ?_⟩
    refine q_asgE' (pile_new (ev_var rfl) hk fun x l dx cs H3 nx nl e3 hp => ?_)
    refine (?_ : tSeq _ _ _ _ _)
    refine ⟨.ref r, rfl, .ref t, rfl, r, t, p, q, dxr, rows, a, b, ds, ks, rfl, hk.ext e3, hR, ex_rd e3 ht, hlet, hz, fun H4 e4 => ?_⟩
    have e04 := e3.trans e4
    refine (?_ : tSeq _ _ _ _ _)
    refine ⟨.ref t, rfl, t, rfl, ⟨_, .inl (ex_rd e04 ht)⟩, for_tup (K := K) (a := t) (xs := ks.map V.int)
      (fun i σ H' => ∃ (cs : List V) (ss : List PSt) (y : Option V), σ = [some (.ref r), some (.ref t), some (.ref x), y] ∧ Ex H H' ∧ PileK H' CP x r l dx cs ss ∧ Inn rows ss ∧ LetR (dayList rows) ss (ks.drop i) ∧ runs (dayList rows) ss (ks.drop i) = runs (dayList rows) [st0 a b] ks ∧ ss.length = i + 1)
      ⟨cs, [st0 a b], none, rfl, e04, hp.ext e4, Inn.zero hk.G.head, hlet, rfl, rfl⟩ (fun i σ H' _ ⟨_, _, _, _, ex, _⟩ => .inl (ex_rd ex ht)) ?_ ?_⟩
    · rintro i y σ H' hi ⟨cs, ss, yo, rfl, ex, hp', inn, hl, hrun, sl⟩
      obtain ⟨kk, hkk, rfl⟩ : ∃ kk, ks[i]? = some kk ∧ V.int kk = y := by
        rw [List.getElem?_map] at hi
        exact Option.map_eq_some_iff.mp hi
      have hlt := (List.getElem?_eq_some_iff.mp hkk).1
      rw [drop_cons hkk] at hl hrun
      obtain ⟨c1, c2⟩ := hl
      refine day_go (ev_var rfl) (ev_var rfl) hp' (hk.ext ex) inn.pos (by omega) inn.fit c1 fun u c H5 far hp5 hd5 => ?_
      exact ⟨cs ++ [c], ss ++ [nextSt (dayList rows) ss kk], _, rfl, fun c o e => far _ _ (ne_of_none e nl) (ex _ _ e), hp5, inn.next hR c1, c2, hrun, by rw [List.length_append, sl]; rfl⟩
    · rintro σ H' ⟨cs, ss, yo, rfl, ex, hp', inn, hl, hrun, sl⟩
      rw [List.length_map, List.drop_length] at hrun
      have hrun' : ss = runs (dayList rows) [st0 a b] ks := hrun
      refine s_ret (ev_var rfl) fun H6 e6 => k x l dx cs H6 (ex.trans e6) ?_
      rw [← hrun']
      exact hp'.ext e6
theorem runs_pos (dd : List DayD) (ks : List Int) (a b : Int) : 0 < (runs dd [st0 a b] ks).length := by
  rw [runs_len]
  simp
  omega
theorem ok_course (GC : FnOk P w K mg base CX0 7 fC dC ["rule", "choices"] (spChoices C CD)) (FC : Fun K "check_choices" "check_choices" sChoices fC dC) (bC : Binds K dC ["rule", "choices"] []) (mC : mg "check_choices" = some (.ref fC))
    (F : Fun K "course" "course" sCourse f fd) (B : Blt mg) (PA : PlA P w K mg base C CD CP CN CI CL fi fy di dy g gd) : FnOk P w K mg base CX0 8 f fd ["rule", "choices"] (spLed C CD courseOf) := by
  refine F.ok scCourse (fun vs H Q E h => ?_) (fun cdv A outer s H vs Q E hr h => ?_)
  · obtain ⟨r, t, p, q, dx, rows, a, b, ds, ks, rfl, _⟩ := h
    rfl
  · obtain ⟨r, t, p, q, dxr, rows, a, b, ds, ks, rfl, hk, hR, ht, hlet, hz, k⟩ := h
    have hr7 : Room 7 _ := hr
    have hr6 := hr.mono (j := 6) (by omega)
    refine ⟨_, (pss_cons (ps_set (i := 2) scCourse.nd rfl (.inr rfl) (pe_make PA.M PA.Gi hr7 (by rfl) PA.m PA.bi .nil (E := E0) passL (pa_cons (pv 0) pa_nil)))
      (pss_cons (ps_expr (pe_call GC hr (by rfl) mC FC.kp bC .nil pass0 (pa_cons (pv 0) (pa_cons (pv 1) pa_nil))))
      (pss_one (ps_ret (pe_callTy call_tuple_of (by rfl) B.tuple bTuple (pa_cons (pe_lc (own := [("number", 3)]) (g := gName 3) (tt := tYes) rfl scCourse.nd (pi_tup (pv 1)) (blkOk_by (N := ["rule", "choices", "pile", "number"]) (sc := defScope sCourse) (by decide +kernel)) (fun _ _ _ _ _ => pg_name (i := 3) scCourse.nd rfl (Or.inl rfl)) (fun _ _ _ _ _ => pts_nil) (fun _ _ _ _ _ => (pe_meth (pv 2) PA.PC.cl PA.hy PA.Gy hr6 PA.by_ .nil (E := E0) passL (pa_cons (pv 3) pa_nil)))) pa_nil)))))), ?_⟩
    refine q_asgE' (pile_new (ev_var rfl) hk fun x l dx cs H3 nx nl e3 hp => ?_)
    refine (?_ : tSeq _ _ _ _ _)
    refine ⟨.ref r, rfl, .ref t, rfl, r, t, p, q, dxr, rows, a, b, ds, ks, rfl, hk.ext e3, hR, ex_rd e3 ht, hlet, hz, fun H4 e4 => ?_⟩
    have e04 := e3.trans e4
    dsimp only
    refine ⟨.ref t, rfl, t, rfl, ⟨ks.map V.int, .inl (ex_rd e04 ht)⟩, fun Dl hD => lc_tup (K := K) (a := t) (xs := ks.map V.int)
      (fun i H' => ∃ (cs acc : List V) (ss : List PSt) (ud : List (List Int)), Ex H H' ∧ H' Dl = some (.lst acc) ∧ Dats H' acc (ud.map intsD) ∧ acc.length = i ∧ PileK H' CP x r l dx cs ss ∧ Inn rows ss ∧ LetR (dayList rows) ss (ks.drop i) ∧ runs (dayList rows) ss (ks.drop i) = runs (dayList rows) [st0 a b] ks ∧ ud ++ takes (dayList rows) ss (ks.drop i) = takes (dayList rows) [st0 a b] ks ∧ ss.length = i + 1)
      ⟨cs, [], [st0 a b], [], e04.trans (Ex.new hD), upd_same, .nil, rfl, (hp.ext e4).ext (Ex.new hD), Inn.zero hk.G.head, hlet, rfl, rfl, rfl⟩ (fun i H' _ ⟨_, _, _, _, ex, _⟩ => .inl (ex_rd ex ht)) ?_ ?_⟩
    · rintro i y H' hi ⟨cs, acc, ss, ud, ex, hDl, hac, al, hp', inn, hl, hrun, htk, sl⟩
      obtain ⟨kk, hkk, rfl⟩ : ∃ kk, ks[i]? = some kk ∧ V.int kk = y := by
        rw [List.getElem?_map] at hi
        exact Option.map_eq_some_iff.mp hi
      have hlt := (List.getElem?_eq_some_iff.mp hkk).1
      rw [drop_cons hkk] at hl hrun htk
      obtain ⟨c1, c2⟩ := hl
      refine ⟨rfl, ?_⟩
      have nD : H Dl = none := fresh_back e04 hD
      have lD : l ≠ Dl := fun z => by
        have h4 := e4 _ _ hp.crs
        rw [z, hD] at h4
        cases h4
      refine day_go (ev_var rfl) (ev_var rfl) hp' (hk.ext ex) inn.pos (by omega) inn.fit c1 fun u c H5 far hp5 hd5 => ⟨acc, far _ _ lD.symm hDl, sz_lt (by omega), ?_⟩
      obtain ⟨H6, eH6⟩ : ∃ H6, H6 = upd H5 Dl (.lst (acc ++ [u])) := ⟨_, rfl⟩
      rw [← eH6]
      have hD5 := far _ _ lD.symm hDl
      have b6 : But Dl H5 H6 := fun c o n e => by rw [eH6, upd_ne n]; exact e
      have keep6 : ∀ p ys, Rd H5 p (.tup ys) → Rd H6 p (.tup ys) := tup_stay hD5 b6
      have xD : x ≠ Dl := fun z => by
        have h5 := hp5.ins
        rw [z, hD5] at h5
        cases h5
      refine ⟨cs ++ [c], acc ++ [u], ss ++ [nextSt (dayList rows) ss kk], ud ++ [(curSt ss).pile.take kk.toNat], fun c o e => b6 _ _ (ne_of_none e nD) (far _ _ (ne_of_none e nl) (ex _ _ e)), by rw [eH6]; exact upd_same, ?_, by rw [List.length_append, al]; rfl, ⟨b6 _ _ xD hp5.ins, b6 _ _ lD hp5.crs, ?_⟩, inn.next hR c1, c2, hrun, by rw [List.append_assoc]; exact htk, by rw [List.length_append, sl]; rfl⟩
      · rw [List.map_append]
        exact dats_app (listInts_keep (fun p ys h => keep6 _ _ (tup_stay hp'.crs far _ _ h)) hac) (.cons (ints_keep keep6 hd5) .nil)
      · exact stNs_far (l := Dl) (H := hide l H5) (by rw [hide_ne lD.symm]; exact hD5) (fun _ z => by cases z) (fun _ _ z => by cases z) (hide_keep fun b u n e => b6 b u n e) hp5.nst
    · rintro H' ⟨cs, acc, ss, ud, ex, hDl, hac, al, hp', inn, hl, hrun, htk, sl⟩
      rw [List.length_map, List.drop_length] at htk
      have htk' : ud = takes (dayList rows) [st0 a b] ks := by
        rw [← htk]
        exact (List.append_nil _).symm
      refine ⟨Dl, acc, rfl, .inl ⟨sq_of hDl, fun t2 nt => k _ _ (ex.trans (Ex.new nt)) ?_⟩⟩
      unfold courseOf
      rw [← htk']
      exact .tup (.inl upd_same) (Dats.mono (Ex.new nt) hac)
end
end PW
namespace PW
open PySem PySem.Spec PyProof.Rows L2 Evl
section
variable {K : PySem.W.Frag} {σ : L2.St} {H : Hp} {ta tb te : TE}
/-- a list that is new: of these things -/
def IsLD (ds : List PyData) (H : Hp) (v : V) : Prop := ∃ r vs, v = .ref r ∧ H r = some (.lst vs) ∧ Dats H vs ds
theorem er_ldat {ds : List PyData} (h : EvR te σ H (IsLD ds)) : EvR te σ H (fun H' v => Dat H' v (.list ds)) := EvR.imp h fun _ _ _ ⟨r, vs, a, b, c⟩ => a ▸ .lst (.inl b) c
theorem er_rep2 {d : PyData} (h : EvR te σ H (fun H' v => Dat H' v d)) : EvR (tOp rRep (tLst (tCons te tNil)) (tC (.int 2))) σ H (IsLD [d, d]) := fun H1 e Q q =>
  h H1 e _ fun v H2 e2 hv => ⟨by show 1 ≤ sizeLine; decide, fun l nl => by
    have el := Ex.new (o := .lst [v]) nl
    refine ⟨l, 2, [v], rfl, rfl, upd_same, by decide, by decide, Nat.le_of_ble_eq_true rfl, fun p np => q _ _ ((e2.trans el).trans (Ex.new np)) ⟨p, _, rfl, upd_same, ?_⟩⟩
    have hv' := Dat.mono (el.trans (Ex.new (o := .lst (List.replicate (2 : Int).toNat [v]).flatten) np)) hv
    exact .cons hv' (.cons hv' .nil)⟩
theorem er_catL {ds es : List PyData} (ha : EvR ta σ H (IsLD ds)) (hb : EvR tb σ H (IsLD es)) (hz : ds.length + es.length ≤ 1000) : EvR (tOp rCat ta tb) σ H (IsLD (ds ++ es)) := fun H1 e Q q =>
  ha H1 e _ fun v H2 e2 ⟨l, xs, ev, hl, hx⟩ => hb H2 (e.trans e2) _ fun u H3 e3 ⟨m, ys, eu, hm, hy⟩ =>
    ⟨l, m, xs, ys, ev, eu, e3 _ _ hl, hm, sz_of (by rw [Dats.len hx, Dats.len hy]; omega), fun p np => q _ _ ((e2.trans e3).trans (Ex.new np)) ⟨p, _, rfl, upd_same, dats_app (Dats.mono (e3.trans (Ex.new np)) hx) (Dats.mono (Ex.new np) hy)⟩⟩
theorem er_tupL {ds : List PyData} {i : Nat} {l : Addr} {xs : List V} (h : σ[i]? = some (some (.ref l))) (hl : Rd H l (.lst xs)) (hd : Dats H xs ds) : EvR (tCB (fun vs H Q => ∃ p ys, vs = [.ref p] ∧ ((SqL K H p ys ∧ ∀ l, H l = none → Q (.ref l) (upd H l (.tup ys))) ∨ (SqT K H p ys ∧ Q (.ref p) H))) (tCons (tVar i) tNil)) σ H (fun H' v => Dat H' v (.tuple ds)) := fun H1 e Q q =>
  ⟨.ref l, h, l, xs, rfl, .inl ⟨.inl (ex_rd e hl), fun t nt => q _ _ (Ex.new nt) (.tup (.inl upd_same) (Dats.mono (e.trans (Ex.new nt)) hd))⟩⟩
end
theorem spring_rule {H H' : Hp} {p r pp qq dx C CD : Addr} {rows : List Str} {a b : Int} {ds : List V} {dd : List DayD} (s : SpringAt H p) (k : But p H H') (hk : RuleK H C CD r pp qq dx rows a b ds dd) : RuleK H' C CD r pp qq dx rows a b ds dd := by
  obtain ⟨x, y, z, h⟩ := s
  exact hk.far h (fun _ _ _ _ z => by cases z) (fun _ z => by cases z) k
section
variable {P : Program} {w : World} {K : PySem.W.Frag} {mg : Str → Option Value} {base : Heap} {f fHE : Addr} {fd dHE : FuncData} {j : Nat}
end
end PW
/-! T1: defs whose code object is known, and a law's end, where tables of code objects grow -/
namespace PW
open PySem PySem.Spec PyProof.Rows L2
/-- the code object of the def at f -/
def codeAt (K : PySem.W.Frag) (f : Addr) : Option Addr := match K.lookup f with
  | some ⟨_, _, .func fd, _⟩ => (match fd.code with | .ref c => some c | _ => none)
  | _ => none
section
variable {P : Program} {w : World} {K : PySem.W.Frag} {mg : Str → Option Value} {base : Heap}
/-- THE RULE for a def that wants stillness and makes functions -/
theorem okL {x qual : Str} {st : Stmt} {f c : Addr} {fd : FuncData} {N ps : List Str} {k : Nat} {sp : Sp}
    (F : Fun K x qual st f fd) (S : FnScope N ps (defScope st)) (hc : codeAt K f = some c) (len : ∀ vs H Q E, sp vs H Q E → vs.length = ps.length)
    (hbody : ∀ (A : Around) (outer : List Env) (s : Shared) (H : Hp) (vs : List V) (Q : VK) (E : XK),
      Still (A.deeper (envOfC qual (defScope st) s.heap.objs.size f (.ref c))) →
      Room k (A.deeper (envOfC qual (defScope st) s.heap.objs.size f (.ref c))) → sp vs H Q E →
      ∃ t, PSs (cxOf CX0 P w K mg base N qual (defScope st) f (.ref c) A outer s H E).nox (defBody st) t ∧
        t { nx := fun _ H' => Q .non H', rt := Q } (start N vs) H) :
    FnG P w K mg base CX0 (k + 1) f fd ps sp := by
  obtain ⟨oc, od, kV, doc, pm, an, cdv, ct, osl, rfl, lk, hcd⟩ := F.ex
  have hcv : cdv = .ref c := by
    unfold codeAt at hc
    rw [lk] at hc
    dsimp only at hc
    split at hc
    · rw [Option.some.inj hc]
    · cases hc
  subst hcv
  refine ⟨len, ?_⟩
  intro A outer s H args us vs Q E still room env bnd rel hsp
  have hl := len _ _ _ _ hsp
  have kept : ∀ b o, base.get? b = some o → s.heap.get? b = some o := fun b o e => (env.bs b o e).1
  have KX : K.In s.heap := env.mod.kin.keeps kept
  have pars : ∀ y ∈ ps.zip us, (defScope st).names.lookup y.1 = some .local ∨
      ((defScope st).names.lookup y.1 = some .cell ∧
        ((cellsFrom (s.heap.objs.size + 1) (defScope st).names []).lookup y.1).isSome = true) := by
    intro y hy
    obtain ⟨n, v⟩ := y
    exact (S.par n (List.of_mem_zip hy).1).imp id fun q => ⟨q, PySem.W.cellsFrom_some _ _ _ (.inl q)⟩
  refine codeAny_call_function room.depth (KX _ _ lk) rfl S.co S.gen rfl
    (PySem.W.codeRec_of KX hcd) (bnd _ _ _ _ ?_)
  refine wpAny_newFunctionEnv_cells S.kind pars ?_
  intro env' he s1 x
  subst he
  refine ⟨(env.mod.nolimit.keeps kept).keeps x.toInCall.keep, codeAny_func ?_⟩
  obtain ⟨t, ht, hq⟩ := hbody A outer s H vs Q E still (room.deeper _) hsp
  refine wpAny_mono (ht.nox.run [] s1 (start N vs) H _
    (inv_start S room.hd env hl rel x) hq) ?_ (fun _ _ z => z)
  intro fl s' hs
  cases fl with
  | ret u =>
    obtain ⟨v, σ', H', J, rv, q⟩ := hs
    exact ⟨v, H', J.os, J.bare, J.base, J.hok, rv, q⟩
  | next =>
    obtain ⟨σ', H', J, q⟩ := hs
    exact ⟨V.non, H', J.os, J.bare, J.base, J.hok, rfl, q⟩
  | brk => exact hs.elim fun _ z => z.elim fun _ z => z.2.elim
  | cont => exact hs.elim fun _ z => z.elim fun _ z => z.2.elim
end
open LamX in
/-- law_call with tables, where the def wants stillness -/
theorem law_callTG {P : Program} {w : World} {K : PySem.W.Frag} {mg mb : Str → Option Value} {k : Nat} {fa a : Addr} {cs : List (Addr × Addr)} {fd : FuncData} {x : Str} {sp : Sp} {s₁ : Shared} {vs : List Value} {ns : List Int}
    (KX : K.In s₁.heap) (hns : s₁.heap.Ns mainGlobals mg) (hb : s₁.heap.Ns builtinsNs mb) (hbb : ∀ x : Str, x ≠ "__name__" → mb x = bootBuiltins x) (hlim : s₁.heap.NoLimit) (hg : s₁.gens = #[])
    {mm : Str → Option Value} (hsys : s₁.heap.Ns sysModules mm)
    (hT : ∀ p ∈ cs, s₁.heap.get? p.2 = some { cls := .none, data := .fields #[] }) (nT : ∀ p ∈ cs, K.lookup p.2 = none) (C : ∀ p ∈ cs, PySem.W.CodeHd s₁.heap p.1 p.2)
    (hbm : ∃ (bm : Addr) (ob : Obj), mg "__builtins__" = some (.ref bm) ∧ bm ≠ builtinsNs ∧ s₁.heap.get? bm = some ob ∧ ob.cls = .type "module" ∧ ob.dict = some builtinsNs ∧ ob.data = .plain)
    (ha : s₁.heap.get? a = some { cls := .type "list", data := .seq vs.toArray }) (hi : IntsAre vs ns) (hl : ns.length ≤ sizeLine) (hr : Room k callerA)
    (F : ∀ base : Heap, K.In base → base.Ns mainGlobals mg → (base.get? sysModules).isSome = true → (∀ p ∈ cs, TabB base mg p.1 p.2) → FnG P w K mg base CX0 k fa fd [x] sp) (hbind : ∀ (s : Shared) (u : Value), BindsTo s fd ⟨[u], []⟩ [(x, u)])
    (hsp : ∀ H : Hp, (∀ p ∈ cs, H p.2 = some (.tbl #[])) → SqL K H a (ns.map V.int) → sp [.ref a] H (fun v _ => v = .bl true) fun _ _ _ => False) :
    codeAny (model P w) callerA (.call (.ref fa) ⟨[.ref a], []⟩) (fun r s' => r = .ok (.ret (.bool true)) ∧ OldK s₁.heap s'.heap ∧ s'.os = s₁.os ∧ AllBare s'.gens) s₁ := by
  have rv := vals_ints hi
  have lenV := hi.length
  have isT : ∀ b : Addr, b ∈ cs.map (·.2) → s₁.heap.get? b = some { cls := .none, data := .fields #[] } := fun b hb => by
    obtain ⟨p, hp, e⟩ := List.mem_map.mp hb
    rw [← e]
    exact hT p hp
  have aT : a ∉ cs.map (·.2) := fun z => by
    have q := isT a z
    rw [ha] at q
    have z' : Data.seq vs.toArray _ = Data.fields #[] := congrArg Obj.data (Option.some.inj q)
    cases z'
  have memT : ∀ p ∈ cs, p.2 ∈ cs.map (·.2) := fun p hp => List.mem_map.mpr ⟨p, hp, rfl⟩
  have core : ∀ H : Hp, (∀ p ∈ cs, H p.2 = some (.tbl #[])) → (∀ b, H b = none ∨ b ∈ cs.map (·.2) ∨ ∃ o xs, H b = some (.frz o (.lst xs))) → SqL K H a (ns.map V.int) → HOk P w H s₁.heap → (∀ b, H b ≠ none → b = a ∨ b ∈ cs.map (·.2)) → (H a ≠ none → K.lookup a = none) →
      codeAny (model P w) callerA (.call (.ref fa) ⟨[.ref a], []⟩) (fun r s' => r = .ok (.ret (.bool true)) ∧ OldK s₁.heap s'.heap ∧ s'.os = s₁.os ∧ AllBare s'.gens) s₁ := by
    intro H hH hO hS hok hA hK
    have base_of : ∀ {b : Addr} {o : Obj}, s₁.heap.get? b = some o → H b = none → (hidT s₁.heap H).get? b = some o := fun e n => hidT_get e n
    have noD : ∀ {b : Addr} {o : Obj}, s₁.heap.get? b = some o → (∀ vs n, o.data ≠ .seq vs n) → o.data ≠ .fields #[] → H b = none := fun {b o} e h1 h2 => by
      cases q : H b with
      | none => rfl
      | some u =>
        rcases hA b (by rw [q]; simp) with e' | e'
        · rw [e', ha] at e
          cases e
          exact (h1 _ _ rfl).elim
        · rw [isT b e'] at e
          cases e
          exact (h2 rfl).elim
    have noA : ∀ {b : Addr} {o : Obj} {es : Array DictEntry} {ep : Nat}, s₁.heap.get? b = some o → o.data = .dict es ep → H b = none := fun {b o es ep} e d => by
      refine noD e (fun vs n z => ?_) fun z => ?_
      · rw [d] at z
        cases z
      · rw [d] at z
        cases z
    have nsK : ∀ {b : Addr} {m : Str → Option Value}, s₁.heap.Ns b m → (hidT s₁.heap H).Ns b m := fun {b m} ⟨o, es, ep, e, d, r⟩ => ⟨o, es, ep, base_of e (noA e d), d, r⟩
    have hKb : K.In (hidT s₁.heap H) := fun b o e => base_of (KX b o e) (by
      cases q : H b with
      | none => rfl
      | some u =>
        rcases hA b (by rw [q]; simp) with e' | e'
        · rw [e'] at e q
          rw [hK (by rw [q]; simp)] at e
          cases e
        · obtain ⟨p, hp, ep⟩ := List.mem_map.mp e'
          rw [← ep, nT p hp] at e
          cases e)
    have hM : L2.Mod K mg (hidT s₁.heap H) := ⟨hKb, nsK hns, ⟨mb, nsK hb, hbb⟩, let ⟨mc, h1, h2⟩ := hlim; ⟨mc, nsK h1, h2⟩⟩
    have sys : ((hidT s₁.heap H).get? sysModules).isSome = true := by
      obtain ⟨o, _, _, e, _⟩ := nsK hsys
      rw [e]
      rfl
    have TB : ∀ p ∈ cs, TabB (hidT s₁.heap H) mg p.1 p.2 := fun p hp => by
      have hTp := hT p hp
      refine ⟨?_, ?_, fun z => ?_⟩
      · obtain ⟨o, us, file, tf, flags, tg, inF, text, tt, e1, r1, r2, r3, r4, r5, r6, r7, r8, hne⟩ := C p hp
        refine ⟨o, us, file, tf, flags, tg, inF, text, tt, base_of e1 (noD e1 (fun vs n z => ?_) fun z => ?_), r1, r2, r3, r4, r5, r6, r7, r8, hne⟩
        · rw [r2] at z
          cases z
        · rw [r2] at z
          cases z
          simp at r3
      · obtain ⟨bm, ob, b1, b2, b3, b4, b5, b6⟩ := hbm
        have nG : bm ≠ mainGlobals := fun q => by
          obtain ⟨o, es, ep, e, hd, _⟩ := hns
          rw [q, e] at b3
          cases b3
          rw [hd] at b6
          cases b6
        have nP : bm ≠ p.2 := fun q => by
          rw [q, hTp] at b3
          cases b3
          cases b6
        refine ⟨bm, ob, b1, b2, nG, nP, base_of b3 (noD b3 (fun vs n z => ?_) fun z => ?_), b4, b5, b6⟩
        · rw [b6] at z
          cases z
        · rw [b6] at z
          cases z
      · obtain ⟨o, es, ep, e, hd, _⟩ := hns
        rw [z, hTp] at e
        cases e
        cases hd
    have e0 : Env0 P w K mg (hidT s₁.heap H) callerA [] s₁ H := ⟨rfl, hM, fun b o e => of_hidT e, Nat.le_of_eq (hidT_size _ _), trivial, fun b hb => absurd (show b ∈ ([] : List Addr) from hb) (by simp), hok, .of_eq hg⟩
    refine codeAny_mono ((F _ hKb (nsK hns) sys TB).goes callerA [] s₁ H ⟨[.ref a], []⟩ [.ref a] [.ref a] _ _ still_caller hr e0 (hbind s₁ (.ref a)) (.cons rfl .nil) (hsp H hH hS)) fun r s' h => ?_
    cases r with
    | error e => exact False.elim h
    | ok fl =>
      cases fl with
      | next => exact False.elim h
      | brk => exact False.elim h
      | cont => exact False.elim h
      | ret u =>
        obtain ⟨v, H', os, bare, un, hok', r', q⟩ := h
        have q' : v = .bl true := q
        subst q'
        obtain rfl : u = Value.bool true := r'
        have key : ∀ b o, b ∉ cs.map (·.2) → s₁.heap.get? b = some o → s'.heap.get? b = some o := fun b o nb e => by
          cases q : H b with
          | none => exact un.keep b o e q (by intro z; exact absurd (show b ∈ ([] : List Addr) from z) (by simp)) (by simp)
          | some u =>
            rcases hO b with z | z | ⟨ob, xs, z⟩
            · rw [q] at z; cases z
            · exact absurd z nb
            · have z2 := un.frzs b ob _ z
              obtain ⟨e1, _⟩ := hok b _ z
              obtain ⟨e2, _⟩ := hok' b _ z2
              rw [e] at e1; cases e1
              exact e2
        have grown : ∀ p ∈ cs, ∃ more : Array Value, s'.heap.get? p.2 = some { cls := .none, data := .fields more } := fun p hp => by
          obtain ⟨more, z⟩ := un.tbls p.2 #[] (hH p hp)
          exact ⟨_, hok' p.2 _ z⟩
        refine ⟨rfl, ⟨fun b o e => ?_, fun b o e => ?_⟩, os, bare⟩
        · by_cases hb : b ∈ cs.map (·.2)
          · obtain ⟨p, hp, ep⟩ := List.mem_map.mp hb
            obtain ⟨more, hm⟩ := grown p hp
            rw [← ep] at e ⊢
            rw [hT p hp] at e
            cases e
            exact .inr (.inl ⟨((C p hp).tab (hT p hp)).isCodeTable, rfl, #[], more, rfl, by rw [Array.empty_append]; exact hm⟩)
          · exact .inl (key b o hb e)
        · by_cases hb : b ∈ cs.map (·.2)
          · obtain ⟨p, hp, ep⟩ := List.mem_map.mp hb
            obtain ⟨more, hm⟩ := grown p hp
            rw [← ep]
            exact ⟨_, hm⟩
          · exact ⟨o, key b o hb e⟩
  cases hk : K.lookup a with
  | some o =>
    have e := KX a o hk
    rw [ha] at e
    cases e
    refine core (fun b => if b ∈ cs.map (·.2) then some (.tbl #[]) else none) (fun p hp => if_pos (memT p hp)) (fun b => ?_) (.inr ⟨_, vs.toArray, _, hk, rfl, rfl, rfl, by rw [List.size_toArray, lenV]; exact hl, by simpa using rv⟩) (fun b u z => ?_) (fun b z => ?_) fun z => absurd (show (if a ∈ cs.map (·.2) then some (HO.tbl #[]) else none) = none from if_neg aT) z
    · by_cases hb : b ∈ cs.map (·.2)
      · exact .inr (.inl hb)
      · exact .inl (if_neg hb)
    · by_cases hb : b ∈ cs.map (·.2)
      · have z' := (if_pos hb).symm.trans z
        cases z'
        exact isT b hb
      · have z' := (if_neg hb).symm.trans z
        cases z'
    · by_cases hb : b ∈ cs.map (·.2)
      · exact .inr hb
      · exact absurd (if_neg hb) z
  | none =>
    refine core (fun b => if b = a then some (.frz { cls := .type "list", data := .seq vs.toArray } (.lst (ns.map V.int))) else if b ∈ cs.map (·.2) then some (.tbl #[]) else none) (fun p hp => (if_neg (show ¬ p.2 = a from fun z => aT (by rw [← z]; exact memT p hp))).trans (if_pos (memT p hp))) (fun b => ?_)
      (.inl (.inr ⟨{ cls := .type "list", data := .seq vs.toArray }, if_pos rfl⟩)) (fun b u z => ?_) (fun b z => ?_) fun _ => hk
    · by_cases hb : b = a
      · exact .inr (.inr ⟨_, _, if_pos hb⟩)
      · by_cases hb2 : b ∈ cs.map (·.2)
        · exact .inr (.inl hb2)
        · exact .inl ((if_neg hb).trans (if_neg hb2))
    · by_cases hb : b = a
      · have z' := (if_pos hb).symm.trans z
        cases z'
        rw [hb]
        exact ⟨ha, by rw [List.length_map]; exact hl, vs, _, rv, ha⟩
      · have z1 := (if_neg hb).symm.trans z
        by_cases hb2 : b ∈ cs.map (·.2)
        · have z' := (if_pos hb2).symm.trans z1
          cases z'
          exact isT b hb2
        · have z' := (if_neg hb2).symm.trans z1
          cases z'
    · by_cases hb : b = a
      · exact .inl hb
      · by_cases hb2 : b ∈ cs.map (·.2)
        · exact .inr hb2
        · exact absurd ((if_neg hb).trans (if_neg hb2)) z
open LamX in
/-- what is left of a row behind its head, where defs xs make functions: cs, their code objects and tables -/
theorem walkT {l : PySem.W.OpenLaw} {n k : Nat} {q : Program} {loose : List Str} {XP : (Str → Option Value) → Heap → Prop}
    {YP : World → Heap → Prop} {d : DefRec} {K : Params → PySem.W.Frag} {sp : PySem.W.Frag → Sp} {x : Str} {cs : List (Addr × Addr)}
    (hn : l.most = some n) (hn2 : n ≤ sizeLine) (hdf : d.params.defaults = []) (hq : importsNone q = true) (hr : Room k callerA)
    (hY : ∀ (w : World) (h : Heap), YP w h → (K w.params).In h)
    (hcs : ∀ (w : World), ∀ p ∈ cs, ∃ (y : Str) (e : DefRec), (recsOf q).find? (fun e => e.name == y) = some e ∧ PySem.W.tabIn (K w.params) y = some p ∧ (K w.params).lookup p.2 = none)
    (F : ∀ (w : World) (mg : Str → Option Value) (fa : Addr) (h : Heap), (K w.params).In h → h.Ns mainGlobals mg →
      mg d.name = some (.ref fa) → ∃ fd : FuncData, (∀ (s : Shared) (u : Value), BindsTo s fd ⟨[u], []⟩ [(x, u)]) ∧
        ∀ base : Heap, (K w.params).In base → base.Ns mainGlobals mg → (base.get? sysModules).isSome = true → (∀ p ∈ cs, TabB base mg p.1 p.2) →
          FnG l.prog w (K w.params) mg base CX0 k fa fd [x] (sp (K w.params)))
    (hsp : ∀ (K : PySem.W.Frag) (H : Hp) (a : Addr) (ns : List Int), ns.length ≤ n → (∀ p ∈ cs, H p.2 = some (.tbl #[])) →
      SqL K H a (ns.map V.int) → sp K [.ref a] H (fun v _ => v = .bl true) fun _ _ _ => False) :
    PySem.W.WalkO q loose XP YP l.row.toRowW d [] (fun f vs => PySem.call f vs) := by
  refine Att.attach_call hn hdf ?_
  intro w s0 s1 mg mb fa o pm cd doc a vs ns G Y ho hd hcd hmg hobj hints hlen hg
  have KX := hY w _ Y
  obtain ⟨fd, hb, hF⟩ := F w mg fa _ KX G.T.g hmg
  obtain ⟨mm, hsys, _⟩ := (G.T.seer hq).mods
  have tabs : ∀ p ∈ cs, PySem.W.CodeHd s1.heap p.1 p.2 ∧ s1.heap.get? p.2 = some (PySem.W.tabObj #[]) := fun p hp => by
    obtain ⟨y, e, h1, h2, _⟩ := hcs w p hp
    exact PySem.W.tab_of G.T KX h1 h2
  exact law_callTG KX G.T.g G.T.b G.T.builtins G.T.nolimit hg hsys (fun p hp => (tabs p hp).2) (fun p hp => by
      obtain ⟨_, _, _, _, h3⟩ := hcs w p hp
      exact h3) (fun p hp => (tabs p hp).1) G.T.bmain hobj hints (Nat.le_trans hlen hn2) hr hF hb
    fun H hH hS => hsp (K w.params) H a ns hlen hH hS
end PW
/-! T2: what is kept where tables of code objects grow; readings there -/
namespace PW
open PySem PySem.Spec PyProof.Rows L2 Evl
open LamX (ExtN Tabs tLam)
def noTbl (o : HO) : Prop := ∀ ps, o ≠ .tbl ps
theorem noTbl_lst {xs : List V} : noTbl (.lst xs) := fun _ z => nomatch z
theorem noTbl_tup {xs : List V} : noTbl (.tup xs) := fun _ z => nomatch z
theorem noTbl_dK {xs : List (Key × V)} : noTbl (.dK xs) := fun _ z => nomatch z
theorem noTbl_frz {o : Obj} {u : HO} : noTbl (.frz o u) := fun _ z => nomatch z
theorem noTbl_ins {C dx : Addr} {fs : List (Str × V)} : noTbl (.ins C dx fs) := fun _ z => nomatch z
theorem extN_ex {H H' : Hp} (e : Ex H H') : ExtN H H' := fun b o h _ => e b o h
theorem extN_rd {H H' : Hp} {a : Addr} {u : HO} (e : ExtN H H') (n : noTbl u) (h : Rd H a u) : Rd H' a u := h.imp (fun z => e _ _ z n) fun ⟨o, z⟩ => ⟨o, e _ _ z noTbl_frz⟩
theorem extN_l {K : PySem.W.Frag} {H H' : Hp} {a : Addr} {xs : List V} (e : ExtN H H') (h : SqL K H a xs) : SqL K H' a xs := h.imp (extN_rd e noTbl_lst) id
theorem extN_t {K : PySem.W.Frag} {H H' : Hp} {a : Addr} {xs : List V} (e : ExtN H H') (h : SqT K H a xs) : SqT K H' a xs := h.imp (extN_rd e noTbl_tup) id
theorem SpringAt.extN {H H' : Hp} {p : Addr} (e : ExtN H H') (s : SpringAt H p) : SpringAt H' p := by
  obtain ⟨l, m, t, h⟩ := s
  exact ⟨l, m, t, e _ _ h noTbl_lst⟩
mutual
theorem Dat.extN {H H' : Hp} (e : ExtN H H') : ∀ {v : V} {d : PyData}, Dat H v d → Dat H' v d
  | _, _, .non => .non
  | _, _, .bl b => .bl b
  | _, _, .int i => .int i
  | _, _, .str x => .str x
  | _, _, .lst h r => .lst (extN_rd e noTbl_lst h) (Dats.extN e r)
  | _, _, .tup h r => .tup (extN_rd e noTbl_tup h) (Dats.extN e r)
  | _, _, .dic h r => .dic (extN_rd e noTbl_dK h) (Dats.extN e r)
theorem Dats.extN {H H' : Hp} (e : ExtN H H') : ∀ {vs : List V} {ds : List PyData}, Dats H vs ds → Dats H' vs ds
  | _, _, .nil => .nil
  | _, _, .cons h r => .cons (Dat.extN e h) (Dats.extN e r)
end
theorem tabs_ex {T : List (Addr × Str)} {H H' : Hp} (t : Tabs T H) (e : Ex H H') : Tabs T H' := t.ext e
/-- all but what stands at p and the tables stay -/
def ButN (p : Addr) (H H' : Hp) : Prop := ∀ b o, b ≠ p → H b = some o → noTbl o → H' b = some o
theorem ButN.of {p : Addr} {H H' : Hp} (h : ExtN H H') : ButN p H H' := fun b o _ e n => h b o e n
theorem ButN.but {p : Addr} {H H' : Hp} (h : But p H H') : ButN p H H' := fun b o n e _ => h b o n e
theorem ButN.trans {p : Addr} {H H1 H2 : Hp} (a : ButN p H H1) (b : ButN p H1 H2) : ButN p H H2 := fun c o n e t => b c o n (a c o n e t) t
/-- the tables stay, too, where only a list changes -/
theorem tabs_but {T : List (Addr × Str)} {H H' : Hp} {p : Addr} {xs : List V} (t : Tabs T H) (b : But p H H') (hp : H p = some (.lst xs)) : Tabs T H' := fun q hq => by
  obtain ⟨ps, h1, h2, h3⟩ := t q hq
  have n1 : q.1 ≠ p := ne_of h1 hp (fun z => nomatch z)
  refine ⟨ps, b _ _ n1 h1, h2, fun pos cv hc => ?_⟩
  obtain ⟨c, e1, e2⟩ := h3 pos cv hc
  exact ⟨c, e1, b _ _ (ne_of e2 hp (fun z => by unfold LamX.CodeO at z; cases z)) e2⟩
theorem tabs_spring {T : List (Addr × Str)} {H H' : Hp} {p : Addr} (t : Tabs T H) (b : But p H H') (s : SpringAt H p) : Tabs T H' := by
  obtain ⟨l, m, k, h⟩ := s
  exact tabs_but t b h
/-- a reading that may let tables grow -/
def EvN (T : List (Addr × Str)) (te : TE) (σ : L2.St) (H : Hp) (R : Hp → V → Prop) : Prop := ∀ Q : VK, (∀ v H1, ExtN H H1 → Tabs T H1 → R H1 v → Q v H1) → te σ H Q
section
variable {T : List (Addr × Str)} {te tb : TE} {σ : L2.St} {H : Hp} {R : Hp → V → Prop} {D : Ends} {tz : TS}
theorem en_ev (t : Tabs T H) (h : EvR te σ H R) : EvN T te σ H R := fun Q q => h H (Ex.refl H) Q fun v H1 e r => q v H1 (extN_ex e) (tabs_ex t e) r
theorem en_lam {TT : (XK → Hp → VK → Prop) → Hp → VK → Prop} {t : XK → TE} (h0 : Tabs T H) (h : ∀ H1, ExtN H H1 → Tabs T H1 → ∀ Q : VK, (∀ v H2, Ex H1 H2 → R H2 v → Q v H2) → TT (fun E H' Q' => t E σ H' Q') H1 Q) :
    EvN T (tLam T TT t) σ H R := fun Q q => ⟨h0, fun H1 e1 t1 => h H1 e1 t1 Q fun v H2 e2 r => q v H2 (e1.trans (extN_ex e2)) (tabs_ex t1 e2) r⟩
theorem q_asgN {i : Nat} (h : EvN T te σ H R) (k : ∀ v H1, ExtN H H1 → Tabs T H1 → R H1 v → tz D (σ.set i (some v)) H1) : tSeq (tAsg te (gName i)) tz D σ H := h _ k
/-- [e] -/
theorem en_lst1 (h : EvN T te σ H R) (hm : Mono R) : EvN T (tLst (tCons te tNil)) σ H (fun H' v => ∃ p x, v = .ref p ∧ H' p = some (.lst [x]) ∧ R H' x ∧ ∀ o, H p = some o → ¬ noTbl o) := fun Q q =>
  h _ fun v H1 e1 t1 r => ⟨sz_of (Nat.le_of_ble_eq_true rfl), fun p np => q _ _ (e1.trans (extN_ex (Ex.new np))) (tabs_ex t1 (Ex.new np)) ⟨p, v, rfl, upd_same, hm _ _ _ (Ex.new np) r, fun o ho n => by rw [e1 _ _ ho n] at np; cases np⟩⟩
/-- a new list of things that are told by a property -/
theorem er_lstF {t : TA} {S : Hp → List V → Prop} (h : EvRs t σ H S) (hm : ∀ H1 H2 vs, Ex H1 H2 → S H1 vs → S H2 vs) (hz : ∀ H1 vs, S H1 vs → vs.length ≤ 1000) : EvR (tLst t) σ H (fun H' v => ∃ r vs, v = .ref r ∧ H r = none ∧ H' r = some (.lst vs) ∧ S H' vs) := fun H1 e Q q =>
  h H1 e _ fun vs H2 e2 s => ⟨sz_of (by have := hz _ _ s; omega), fun p np => q _ _ (e2.trans (Ex.new np)) ⟨p, vs, rfl, fresh_back (e.trans e2) np, upd_same, hm _ _ _ (Ex.new np) s⟩⟩
/-- l.append(e), e told by a property -/
theorem q_appR {K : PySem.W.Frag} {ta : TE} {l : Addr} {xs : List V} (hl : H l = some (.lst xs)) (ha : Ev ta σ H (.ref l)) (h : EvR te σ H R) (hz : xs.length < 100000) (k : ∀ v H1, Ex H H1 → R H1 v → tz D σ (upd H1 l (.lst (xs ++ [v])))) :
    tSeq (tDrop (tBM K "list" rAppend ta (tCons te tNil))) tz D σ H := ha H (Ex.refl H) _ fun H1 e1 =>
  ⟨Or.inl ⟨rfl, xs, sq_of (e1 l _ hl)⟩, h H1 e1 _ fun v H2 e2 r => ⟨l, xs, v, rfl, rfl, e2 l _ (e1 l _ hl), sz_lt hz, k v H2 (e1.trans e2) r⟩⟩
end
/-- l.append(e) -/
theorem q_appN {K : PySem.W.Frag} {T : List (Addr × Str)} {ta te : TE} {σ : L2.St} {H : Hp} {R : Hp → V → Prop} {D : Ends} {tz : TS} {l : Addr} {xs : List V} (hl : H l = some (.lst xs)) (ha : Ev ta σ H (.ref l)) (h : ∀ H1, Ex H H1 → EvN T te σ H1 R) (hz : xs.length < 100000)
    (k : ∀ v H1, ExtN H H1 → Tabs T H1 → R H1 v → H1 l = some (.lst xs) → tz D σ (upd H1 l (.lst (xs ++ [v])))) :
    tSeq (tDrop (tBM K "list" rAppend ta (tCons te tNil))) tz D σ H := ha H (Ex.refl H) _ fun H1 e1 =>
  ⟨Or.inl ⟨rfl, xs, sq_of (e1 l _ hl)⟩, h H1 e1 _ fun v H2 e2 t2 r => ⟨l, xs, v, rfl, rfl, e2 l _ (e1 l _ hl) noTbl_lst, sz_lt hz, k v H2 ((extN_ex e1).trans e2) t2 r (e2 l _ (e1 l _ hl) noTbl_lst)⟩⟩
end PW
/-! T3: data of any kind: what isinstance says, their items, numbers among them -/
namespace PW
open PySem PySem.Spec PyProof.Rows L2 Evl
def tyN : PyData → String
  | .none => "NoneType"
  | .bool _ => "bool"
  | .int _ => "int"
  | .str _ => "str"
  | .list _ => "list"
  | .tuple _ => "tuple"
  | .dict _ => "dict"
theorem ty_dat {K : PySem.W.Frag} {H : Hp} {v : V} {d : PyData} (h : Dat H v d) : TyX K H v (.type (tyN d)) := by
  cases h with
  | non => exact .base .non
  | bl b => exact .base (.bl b)
  | int i => exact .base (.int i)
  | str x => exact .base (.str x)
  | lst h r =>
    rcases h with h | ⟨o, h⟩
    · exact .base (.lst h)
    · exact .base (.frz h)
  | tup h r => exact ty_tup h
  | dic h r =>
    rcases h with h | ⟨o, h⟩
    · exact .base (.dK h)
    · exact .fDict h
def isTy (b : String) (d : PyData) : Bool := (kitB (tyN d) b).getD false
def known (b : String) : Bool := ["NoneType", "bool", "int", "str", "list", "tuple", "dict"].all fun a => (kitB a b).isSome
theorem tyN_mem (d : PyData) : tyN d ∈ ["NoneType", "bool", "int", "str", "list", "tuple", "dict"] := by cases d <;> simp [tyN]
theorem kit_known {K : PySem.W.Frag} {b : String} (hb : known b = true) (d : PyData) : PySem.W.kitOne K (.type (tyN d)) (.type b) = some (isTy b d) := by
  have h := List.all_eq_true.mp hb (tyN d) (tyN_mem d)
  refine kit_ty ?_
  unfold isTy
  cases e : kitB (tyN d) b with
  | none => rw [e] at h; cases h
  | some x => rfl
theorem known_int : known "int" = true := by decide +kernel
theorem known_bool : known "bool" = true := by decide +kernel
theorem known_tuple : known "tuple" = true := by decide +kernel
theorem known_str : known "str" = true := by decide +kernel
section
variable {K : PySem.W.Frag} {σ : L2.St} {H : Hp} {te tb : TE} {v : V} {d : PyData}
theorem ev_isD {b : String} (ha : Ev te σ H v) (hb : Ev tb σ H (.ty b)) (h : Dat H v d) (kb : known b = true) : Ev (tCB (rIsi K) (tCons te (tCons tb tNil))) σ H (.bl (isTy b d)) :=
  ev_isi ha hb (.ty b) (fun H1 e1 => ty_dat (Dat.mono e1 h)) (kit_known kb d)
end
def isIntD : PyData → Bool
  | .int _ => true
  | _ => false
theorem isInt_of (d : PyData) : (isTy "int" d && !isTy "bool" d) = isIntD d := by
  have h : ∀ a : String, a ∈ ["NoneType", "bool", "int", "str", "list", "tuple", "dict"] → ((kitB a "int").getD false && !(kitB a "bool").getD false) = (a == "int") := by decide +kernel
  have q := h (tyN d) (tyN_mem d)
  unfold isTy
  rw [q]
  cases d <;> rfl
def isTupD : PyData → Bool
  | .tuple _ => true
  | _ => false
theorem isTup_of (d : PyData) : isTy "tuple" d = isTupD d := by
  have h : ∀ a : String, a ∈ ["NoneType", "bool", "int", "str", "list", "tuple", "dict"] → ((kitB a "tuple").getD false) = (a == "tuple") := by decide +kernel
  have q := h (tyN d) (tyN_mem d)
  unfold isTy
  rw [q]
  cases d <;> rfl
def isStrD : PyData → Bool
  | .str _ => true
  | _ => false
theorem isStr_of (d : PyData) : isTy "str" d = isStrD d := by
  have h : ∀ a : String, a ∈ ["NoneType", "bool", "int", "str", "list", "tuple", "dict"] → ((kitB a "str").getD false) = (a == "str") := by decide +kernel
  have q := h (tyN d) (tyN_mem d)
  unfold isTy
  rw [q]
  cases d <;> rfl
def isBoolD : PyData → Bool
  | .bool _ => true
  | _ => false
theorem isBool_of (d : PyData) : isTy "bool" d = isBoolD d := by
  have h : ∀ a : String, a ∈ ["NoneType", "bool", "int", "str", "list", "tuple", "dict"] → ((kitB a "bool").getD false) = (a == "bool") := by decide +kernel
  have q := h (tyN d) (tyN_mem d)
  unfold isTy
  rw [q]
  cases d <;> rfl
theorem int_dat {H : Hp} {v : V} {n : Int} (h : Dat H v (.int n)) : v = .int n := by cases h; rfl
theorem str_dat {H : Hp} {v : V} {s : Str} (h : Dat H v (.str s)) : v = .str s := by cases h; rfl
theorem tup_datX {H : Hp} {v : V} {ds : List PyData} (h : Dat H v (.tuple ds)) : ∃ p xs, v = .ref p ∧ Rd H p (.tup xs) ∧ Dats H xs ds := by
  cases h with
  | tup h r => exact ⟨_, _, rfl, h, r⟩
theorem lst_datX {H : Hp} {v : V} {ds : List PyData} (h : Dat H v (.list ds)) : ∃ p xs, v = .ref p ∧ Rd H p (.lst xs) ∧ Dats H xs ds := by
  cases h with
  | lst h r => exact ⟨_, _, rfl, h, r⟩
theorem Dats.get {H : Hp} : ∀ {xs : List V} {ds : List PyData} {i : Nat} {d : PyData}, Dats H xs ds → ds[i]? = some d → ∃ x, xs[i]? = some x ∧ Dat H x d
  | _, _, _, _, .nil, e => by simp at e
  | _, _, 0, _, .cons h _, e => by
    simp at e
    subst e
    exact ⟨_, rfl, h⟩
  | _, _, i + 1, d, .cons _ r, e => by
    obtain ⟨x, h1, h2⟩ := Dats.get (i := i) (d := d) r (by simpa using e)
    exact ⟨x, by simpa using h1, h2⟩
/-- within bounds -/
def wholeD (lo hi : Int) : PyData → Bool
  | .int n => decide (lo ≤ n) && decide (n ≤ hi)
  | _ => false
theorem wholeD_int {lo hi : Int} : ∀ {d : PyData}, wholeD lo hi d = true → ∃ n, d = .int n ∧ lo ≤ n ∧ n ≤ hi
  | .int n, h => by
    unfold wholeD at h
    simp at h
    exact ⟨n, rfl, h.1, h.2⟩
  | .none, h => by cases h
  | .bool _, h => by cases h
  | .str _, h => by cases h
  | .list _, h => by cases h
  | .tuple _, h => by cases h
  | .dict _, h => by cases h
def atLeastD (lo : Int) : PyData → Bool
  | .int n => decide (lo ≤ n)
  | _ => false
theorem isIntD_int : ∀ {d : PyData}, isIntD d = true → ∃ n, d = .int n
  | .int n, _ => ⟨n, rfl⟩
  | .none, h => by cases h
  | .bool _, h => by cases h
  | .str _, h => by cases h
  | .list _, h => by cases h
  | .tuple _, h => by cases h
  | .dict _, h => by cases h
theorem isTupD_tup : ∀ {d : PyData}, isTupD d = true → ∃ ds, d = .tuple ds
  | .tuple n, _ => ⟨n, rfl⟩
  | .none, h => by cases h
  | .bool _, h => by cases h
  | .str _, h => by cases h
  | .list _, h => by cases h
  | .int _, h => by cases h
  | .dict _, h => by cases h
def itemsD : PyData → List PyData
  | .tuple ds => ds
  | _ => []
def intD : PyData → Int
  | .int n => n
  | _ => 0
/-- a def that may refuse, as the row has it -/
structure Cl8X (P : Program) (w : World) (K : PySem.W.Frag) (mg : Str → Option Value) (base : Heap) (x : Str) (f : Addr) (fd : FuncData) (ps : List Str) (n : Nat) (sp : Sp) : Prop where
  G : FnOk P w K mg base (L2.CX P w) n f fd ps sp
  m : mg x = some (.ref f)
  k : PySem.W.keepIn K (.ref f) = true
  b : Binds K fd ps []
end PW
namespace PW
open PySem PySem.Spec PyProof.Rows L2 Evl
/-! ### two classes of errors -/
def gW (i : Nat) : Str := if i < 6 then "given" else if i < 12 then "index" else if i = 13 then "index" else if i = 16 then "shown" else "given"
abbrev sIni5 : Stmt := inClass (top 5) 0
abbrev sIni7 : Stmt := inClass (top 7) 0
structure Errs (K : PySem.W.Frag) (mg : Str → Option Value) (c f : Nat → Addr) (fd : Nat → FuncData) : Prop where
  xc : ∀ i, i < 22 → XC K (c i)
  i5 : PySem.W.findIn K (.ref (c 5)) "__init__" = some (some (.ref (f 5)))
  t5 : PySem.W.typeIn K (.ref (f 5)) = some (.type "function")
  i7 : PySem.W.findIn K (.ref (c 7)) "__init__" = some (some (.ref (f 7)))
  t7 : PySem.W.typeIn K (.ref (f 7)) = some (.type "function")
  g5 : mg "NotARule" = some (.ref (c 5))
  F5 : Fun K "__init__" "NotARule.__init__" sIni5 (f 5) (fd 5)
  F7 : Fun K "__init__" "InvalidChoices.__init__" sIni7 (f 7) (fd 7)
  n5g : PySem.W.findIn K (.ref (c 5)) "given" = some none
  n7i : PySem.W.findIn K (.ref (c 7)) "index" = some none
  e77 : PySem.W.exmOne K (.ref (c 7)) (.ref (c 7)) = some true
  g7 : mg "InvalidChoices" = some (.ref (c 7))
def spIni (C : Addr) (g : Str) : Sp := fun vs H Q _ => ∃ (a : Addr) (v : V), vs = [.ref a, v] ∧ H a = some (exo a C none) ∧
  ∀ d, H d = none → d ≠ a → Q .non (upd (upd H d (exd d [(g, v)])) a (exo a C (some d)))
section
variable {P : Program} {w : World} {K : PySem.W.Frag} {mg : Str → Option Value} {base : Heap} {C : Addr}
theorem scIni5 : FnScope ["self", "given"] ["self", "given"] (defScope sIni5) := ⟨rfl, rfl, rfl, by decide +kernel, rfl, by decide +kernel, by decide +kernel⟩
theorem ok_ini5 {f : Addr} {fd : FuncData} (F : Fun K "__init__" "NotARule.__init__" sIni5 f fd) (T : XC K C) (no : PySem.W.findIn K (.ref C) "given" = some none) :
    FnOk P w K mg base CX0 1 f fd ["self", "given"] (spIni C "given") := by
  refine F.ok scIni5 (fun vs H Q E h => ?_) (fun cdv A outer s H vs Q E hr h => ?_)
  · obtain ⟨a, v, rfl, _⟩ := h
    rfl
  · obtain ⟨a, v, rfl, ha, k⟩ := h
    exact ⟨_, pss_one (ps_put (pv 0) (pv 1)), v, rfl, .ref a, rfl, a, C, rfl, T, taker_of no, .inl ⟨ha, fun d nd ne => k d nd ne⟩⟩
theorem scIni7 : FnScope ["self", "index"] ["self", "index"] (defScope sIni7) := ⟨rfl, rfl, rfl, by decide +kernel, rfl, by decide +kernel, by decide +kernel⟩
theorem ok_ini7 {f : Addr} {fd : FuncData} (F : Fun K "__init__" "InvalidChoices.__init__" sIni7 f fd) (T : XC K C) (no : PySem.W.findIn K (.ref C) "index" = some none) :
    FnOk P w K mg base CX0 1 f fd ["self", "index"] (spIni C "index") := by
  refine F.ok scIni7 (fun vs H Q E h => ?_) (fun cdv A outer s H vs Q E hr h => ?_)
  · obtain ⟨a, v, rfl, _⟩ := h
    rfl
  · obtain ⟨a, v, rfl, ha, k⟩ := h
    exact ⟨_, pss_one (ps_put (pv 0) (pv 1)), v, rfl, .ref a, rfl, a, C, rfl, T, taker_of no, .inl ⟨ha, fun d nd ne => k d nd ne⟩⟩
theorem bn5 {f : Addr} {fd : FuncData} (F : Fun K "__init__" "NotARule.__init__" sIni5 f fd) (s : Shared) (us : List Value)
    (hl : us.length = (["self", "given"] : List Str).length) : BindsTo s fd ⟨us, []⟩ ((["self", "given"] : List Str).zip us) := by
  obtain ⟨_, _, _, _, _, _, _, _, _, rfl, _, _⟩ := F.ex
  match us, hl with
  | [_, _], _ => exact .of_eq rfl
theorem bk5 {f : Addr} {fd : FuncData} (F : Fun K "__init__" "NotARule.__init__" sIni5 f fd) (s : Shared) (a : Addr) (us : List Value)
    (hl : us.length = (["given"] : List Str).length) : BindsTo s fd ⟨[.ref a], (["given"] : List Str).zip us⟩ ((["self", "given"] : List Str).zip (.ref a :: id us)) := by
  obtain ⟨_, _, _, _, _, _, _, _, _, rfl, _, _⟩ := F.ex
  match us, hl with
  | [_], _ => exact .of_eq rfl
theorem bn7 {f : Addr} {fd : FuncData} (F : Fun K "__init__" "InvalidChoices.__init__" sIni7 f fd) (s : Shared) (us : List Value)
    (hl : us.length = (["self", "index"] : List Str).length) : BindsTo s fd ⟨us, []⟩ ((["self", "index"] : List Str).zip us) := by
  obtain ⟨_, _, _, _, _, _, _, _, _, rfl, _, _⟩ := F.ex
  match us, hl with
  | [_, _], _ => exact .of_eq rfl
theorem bk7 {f : Addr} {fd : FuncData} (F : Fun K "__init__" "InvalidChoices.__init__" sIni7 f fd) (s : Shared) (a : Addr) (us : List Value)
    (hl : us.length = (["index"] : List Str).length) : BindsTo s fd ⟨[.ref a], (["index"] : List Str).zip us⟩ ((["self", "index"] : List Str).zip (.ref a :: id us)) := by
  obtain ⟨_, _, _, _, _, _, _, _, _, rfl, _, _⟩ := F.ex
  match us, hl with
  | [_], _ => exact .of_eq rfl
end
abbrev Out := Option (Nat × PyData)
def Res (c : Nat → Addr) (H : Hp) (Q : VK) (E : XK) (R : Hp → V → Prop) : Out → Prop
  | none => ∀ z H', Ex H H' → R H' z → Q z H'
  | some (i, d) => ∀ a v H', Ex H H' → H a = none → Dat H' v d → H' a = some (exd a [(gW i, v)]) → E (.ref (c i)) (some a) H'
theorem Res.ext {c : Nat → Addr} {H H1 : Hp} {Q : VK} {E : XK} {R : Hp → V → Prop} : ∀ {o : Out}, Res c H Q E R o → Ex H H1 → Res c H1 Q E R o
  | none, h, e => fun z H' e' r => h z H' (e.trans e') r
  | some (i, d), h, e => fun a v H' e' na hd ha => h a v H' (e.trans e') (fresh_back e na) hd ha
end PW
namespace PW
open PySem PySem.Spec PyProof.Rows L2 Evl
/-! ### choices that are refused -/
/-- the classes of errors can be raised -/
def Rz (K : PySem.W.Frag) (c : Nat → Addr) : Prop := ∀ i, i < 19 → PySem.W.subIn K (.ref (c i)) (.type "BaseException") = some true ∧ PySem.W.typeIn K (.ref (c i)) = some (.type "type")
theorem raise_ini {g : Str} {CR : Addr} {ta : TA} {σ : L2.St} {H : Hp} {v : V} {H0 : Hp} {X : Cx} {E : XK} (hX : X.H_0 = H0) (e0 : Ex H0 H) (ha : EvA ta σ H [v]) (r : Raises X (.ref CR))
    (k : ∀ d H', H d = none → Ex H H' → H' d = some (exd d [(g, v)]) → E (.ref CR) (some d) H') :
    tMkX CR (spIni CR g) ta σ H fun x H1 => ∃ a C d, x = .ref a ∧ H1 a = some (exo a C d) ∧ Fr0 X.H_0 a ∧ Raises X (.ref C) ∧ E (.ref C) d (delH H1 a) := by
  refine ha H (Ex.refl H) _ fun H1 e1 => ⟨by show 1 ≤ 1000; decide, fun a na => ⟨a, v, rfl, upd_same, fun d nd ne => ⟨rfl, a, CR, some d, rfl, upd_same, ?_, r, ?_⟩⟩⟩
  · rw [hX]
    exact fr0_none (fresh_back (e0.trans e1) na)
  · have nd' : H1 d = none := by rw [upd_ne ne] at nd; exact nd
    refine k d _ (fresh_back e1 nd') (fun b o e => ?_) ?_
    · have q := e1 _ _ e
      have ba : b ≠ a := ne_of_none q na
      have bd : b ≠ d := ne_of_none q nd'
      rw [delH_ne ba, upd_ne ba, upd_ne bd, upd_ne ba]
      exact q
    · rw [delH_ne ne, upd_ne ne, upd_same]
def nonR : Hp → V → Prop := fun _ z => z = .non
theorem nonR_mono : Mono nonR := fun _ _ _ _ h => h
def anyR : Hp → V → Prop := fun _ _ => True
theorem anyR_mono : Mono anyR := fun _ _ _ _ h => h
/-- f(..) as a statement, that returns None or refuses -/
theorem q_chk {c : Nat → Addr} {sp : Sp} {E : XK} {ta : TA} {vs : List V} {σ : L2.St} {H : Hp} {D : Ends} {tz : TS} {o : Out} (ha : EvA ta σ H vs) (h : ∀ H1, Ex H H1 → ∀ Q : VK, Res c H1 Q E nonR o → sp vs H1 Q E)
    (bad : ∀ i d, o = some (i, d) → ∀ Q : VK, Res c H Q E nonR (some (i, d))) (k : o = none → ∀ H1, Ex H H1 → tz D σ H1) : tSeq (tDrop (tCall sp [] E ta)) tz D σ H := by
  refine ha H (Ex.refl H) _ fun H1 e1 => ?_
  rw [List.append_nil]
  refine h H1 e1 _ ?_
  cases o with
  | none => exact fun z H' e' _ => k rfl H' (e1.trans e')
  | some p => exact (bad p.1 p.2 rfl _).ext e1
theorem Res.bad {c : Nat → Addr} {H : Hp} {Q Q' : VK} {E : XK} {R R' : Hp → V → Prop} {i : Nat} {d : PyData} (h : Res c H Q E R (some (i, d))) : Res c H Q' E R' (some (i, d)) := h
def intO : PyData → Option Int
  | .int n => some n
  | _ => none
theorem intV_dat {K : PySem.W.Frag} {H : Hp} {v : V} {d : PyData} (h : Dat H v d) : IntV K H v (intO d) := by
  by_cases z : isIntD d = true
  · obtain ⟨n, rfl⟩ := isIntD_int z
    exact int_dat h
  · have e : intO d = none := by cases d <;> first | rfl | exact absurd rfl z
    rw [e]
    refine ⟨.type (tyN d), isTy "int" d, isTy "bool" d, fun H1 e1 => ty_dat (Dat.mono e1 h), kit_known known_int d, kit_known known_bool d, ?_⟩
    rw [isInt_of]
    simpa using z
theorem intO_let {o : Option (Int × Int)} {d : PyData} (h : isLet o (intO d) = true) : ∃ k, d = .int k ∧ isLet o (some k) = true := by
  cases d with
  | int n => exact ⟨n, rfl, h⟩
  | _ => exact absurd h (by unfold intO isLet; split <;> simp_all)
/-- the first number that is not let -/
def badAt (dd : List DayD) : List PSt → List PyData → Nat → Out
  | _, [], _ => none
  | ss, d :: ds, i => if isLet (letsNow ss dd) (intO d) = true then badAt dd (ss ++ [nextSt dd ss (intD d)]) ds (i + 1) else some (7, .int (i : Int))
def choicesOut (dd : List DayD) (a b : Int) (d : PyData) : Out := if isTupD d = true then badAt dd [st0 a b] (itemsD d) 0 else some (7, .none)
/-- choices that are none of these: numbers, each let -/
theorem bad_none {dd : List DayD} : ∀ {ds : List PyData} {ss : List PSt} {i : Nat}, badAt dd ss ds i = none → ∃ ks : List Int, ds = ks.map PyData.int ∧ LetR dd ss ks
  | [], _, _, _ => ⟨[], rfl, True.intro⟩
  | d :: ds, ss, i, h => by
    unfold badAt at h
    split at h
    · rename_i z
      obtain ⟨k, rfl, hk⟩ := intO_let z
      obtain ⟨ks, rfl, hl⟩ := bad_none h
      exact ⟨k :: ks, rfl, hk, hl⟩
    · cases h
theorem choices_none {dd : List DayD} {a b : Int} {d : PyData} (h : choicesOut dd a b d = none) : ∃ ks : List Int, d = intsD ks ∧ LetR dd [st0 a b] ks := by
  unfold choicesOut at h
  split at h
  · rename_i z
    obtain ⟨ds, rfl⟩ := isTupD_tup z
    obtain ⟨ks, e, hl⟩ := bad_none h
    exact ⟨ks, congrArg PyData.tuple e, hl⟩
  · cases h
theorem let_bad {dd : List DayD} : ∀ {ks : List Int} {ss : List PSt} (i : Nat), LetR dd ss ks → badAt dd ss (ks.map PyData.int) i = none
  | [], _, _, _ => rfl
  | k :: ks, ss, i, ⟨h1, h2⟩ => by
    show badAt dd ss (PyData.int k :: ks.map PyData.int) i = none
    unfold badAt
    rw [if_pos (show isLet (letsNow ss dd) (intO (.int k)) = true from h1)]
    exact let_bad (i + 1) h2
def spChoicesD (C CD : Addr) (c : Nat → Addr) : Sp := fun vs H Q E => ∃ (r p q dx : Addr) (v : V) (rows : List Str) (a b : Int) (ds : List V) (d : PyData), vs = [.ref r, v] ∧ RuleK H C CD r p q dx rows a b ds (dayList rows) ∧ RowsM rows ∧ Dat H v d ∧ (itemsD d).length ≤ 1000 ∧
  Res c H Q E nonR (choicesOut (dayList rows) a b d)
section
variable {P : Program} {w : World} {K : PySem.W.Frag} {mg : Str → Option Value} {base : Heap} {c ff : Nat → Addr} {fdd : Nat → FuncData} {C CD gr gp ga : Addr} {dr dp da : FuncData} {f fT fL : Addr} {fd dT dL : FuncData} {j : Nat}
theorem ok_choicesD (E0' : Errs K mg c ff fdd) (Z : Rz K c) (GT : FnOk P w K mg base CX0 (j + 2) fT dT ["number", "lets"] (spIsLet K)) (FT : Fun K "is_let" "is_let" sIsLet fT dT) (bT : Binds K dT ["number", "lets"] []) (mT : mg "is_let" = some (.ref fT))
    (GL : FnOk P w K mg base CX0 (j + 2) fL dL ["day", "lying"] (spLets CD)) (FL : Fun K "numbers_let" "numbers_let" sLets fL dL) (bL : Binds K dL ["day", "lying"] []) (mL : mg "numbers_let" = some (.ref fL))
    (F : Fun K "check_choices" "check_choices" sChoices f fd) (B : Blt mg) (msum : mg "sum" = none) (R : Ru K C) (Y : RuP K C gr gp ga dr dp da) : FnOk P w K mg base (L2.CX P w) (j + 3) f fd ["rule", "choices"] (spChoicesD C CD c) := by
  have T7 := E0'.xc 7 (by decide)
  have GI7 : FnOk P w K mg base CX0 1 (ff 7) (fdd 7) ["self", "index"] (spIni (c 7) "index") := ok_ini7 E0'.F7 T7 E0'.n7i
  have G2 : FnOk P w K mg base CX0 1 gp dp ["self"] (spAsk C (fun _ _ a _ => .int a)) := ok_Plates (j := 0) Y.Fp B R
  have G3 : FnOk P w K mg base CX0 1 ga da ["self"] (spAsk C (fun _ _ _ b => .int b)) := ok_Away (j := 0) Y.Fa B R
  obtain ⟨pp, Pp⟩ := Y.pp
  obtain ⟨pa, Pa⟩ := Y.pa
  refine F.okX scChoices (fun vs H Q E h => ?_) (fun cdv A outer s H vs Q E hr h => ?_)
  · obtain ⟨r, p, q, dx, v, rows, a, b, ds, d, rfl, _⟩ := h
    rfl
  · obtain ⟨r, p, q, dx, v, rows, a, b, ds, d, rfl, hk, hR, hd, hz, k⟩ := h
    have hr2 := hr.mono (j := 2) (by omega)
    obtain ⟨a2, a10, b0, b2⟩ := first_bounds hk.G.head
    obtain ⟨d1, d2, d3⟩ := hk.len
    refine ⟨_, (pss_cons (ps_if (pt_not (pt_val (pe_callB call_isi (by rfl) B.isi bIsi (pa_cons (pv 1) (pa_cons (pe_bltn (v := .ty "tuple") (by rfl) B.tuple bTuple rfl) pa_nil))))) (pss_one (ps_raise rfl (takes_of rfl rfl rfl rfl) (pmk_exo rfl (pe_mkX T7 E0'.i7 E0'.t7 GI7 hr2 (by rfl) E0'.g7 (pa_cons pe_non pa_nil) (bn7 E0'.F7))))) pss_nil)
      (pss_cons (ps_set (i := 2) scChoices.nd rfl (.inl rfl) (pe_op op_repU (pe_tup (pa_cons pe_int pa_nil)) (pe_prop (pv 0) R.cl Pa G3 hr2 Y.ba .nil pass0 (by rfl))))
      (pss_one (ps_for (passes_of rfl) rfl (pi_range1 rfl B.range (pa_cons (pe_callB call_len_seq (by rfl) B.len PySem.boot_len (pa_cons (pv 1) pa_nil)) pa_nil)) (pg_name (i := 3) scChoices.nd rfl (Or.inl rfl)) (pss_cons (ps_set (i := 4) scChoices.nd rfl (.inl rfl) (pe_ix ix_tup (pe_fld (pv 0) rfl) (pe_op op_mod (pv 3) (pe_callB call_len_seq (by rfl) B.len PySem.boot_len (pa_cons (pe_fld (pv 0) rfl) pa_nil))) (fun _ _ => rfl)))
      (pss_cons (ps_if (pt_not (pt_val (pe_call GT hr (by rfl) mT FT.kp bT .nil pass0 (pa_cons (pe_ix ix_tup (pv 1) (pv 3) (fun _ _ => rfl)) (pa_cons (pe_call GL hr (by rfl) mL FL.kp bL .nil pass0 (pa_cons (pv 4) (pa_cons (pe_op op_sub (pe_prop (pv 0) R.cl Pp G2 hr2 Y.bp .nil pass0 (by rfl)) (pe_callB (cr_sumT rfl) (by rfl) msum bSum (pa_cons (pv 2) pa_nil))) pa_nil))) pa_nil))))) (pss_one (ps_raise rfl (takes_of rfl rfl rfl rfl) (pmk_exo rfl (pe_mkX T7 E0'.i7 E0'.t7 GI7 hr2 (by rfl) E0'.g7 (pa_cons (pv 3) pa_nil) (bn7 E0'.F7))))) pss_nil)
      (pss_one (ps_set (i := 2) scChoices.nd rfl (.inl rfl) (pe_slice sl_tupA (pe_tup (StX.pa_star (pv 2) (pa_cons (pe_ix ix_tup (pv 1) (pv 3) (fun _ _ => rfl)) pa_nil))) (po_some pe_int) po_none))))))))), ?_⟩
    have tt := ev_isD (K := K) (σ := [some (.ref r), some v, none, none, none]) (H := H) (te := tVar 1) (tb := tC (.ty "tuple")) (ev_var rfl) ev_c hd known_tuple
    rw [isTup_of] at tt
    refine q_when (b := !isTupD d) (et_not (et_B tt)) (fun z H1 e1 => ?_) (fun z H1 e1 => ?_)
    · have z2 : isTupD d = false := by simpa using z
      have k2 : Res c H Q E nonR (some (7, .none)) := by
        unfold choicesOut at k
        rw [if_neg (by rw [z2]; exact Bool.false_ne_true)] at k
        exact k
      exact raise_ini (H0 := H) rfl e1 (ea_cons ev_c ea_nil) (by exact raises_own (Z 7 (by decide)).1 (Z 7 (by decide)).2) fun a H' na e' ha => k2 a .non H' (e1.trans e') (fresh_back e1 na) .non ha
    have z2 : isTupD d = true := by simpa using z
    obtain ⟨its, rfl⟩ := isTupD_tup z2
    have k2 : Res c H Q E nonR (badAt (dayList rows) [st0 a b] its 0) := by
      unfold choicesOut at k
      rw [if_pos z2] at k
      exact k
    have hz2 : its.length ≤ 1000 := hz
    obtain ⟨t, xs, rfl, ht, hx⟩ := tup_datX hd
    have xl := Dats.len hx
    refine q_asgR (eq_rep (k := b) (eq_tup (xs := [.int 0]) (ea_cons ev_c ea_nil) (Nat.le_of_ble_eq_true rfl)) (ev_ask (ev_var rfl) (hk.ext e1)) (by simp) b0 (by omega) (by decide)) fun v H2 e2 ⟨sz, ev, hsz⟩ => ?_
    subst ev
    rw [flat_one] at hsz
    have e02 := e1.trans e2
    refine ⟨.ref t, rfl, t, xs, rfl, .inr (.inl (ex_rd e02 ht)), _, rfl, by omega, by omega, for_range (lo := 0) (n := ((xs.length : Nat) : Int).toNat)
      (fun i σ H' => ∃ (sz : Addr) (ss : List PSt) (y3 y4 : Option V), σ = [some (.ref r), some (.ref t), some (.ref sz), y3, y4] ∧ Ex H H' ∧ Rd H' sz (.tup (((curSt ss).heaps.map fun h => (h.length : Int)).map V.int)) ∧ Inn rows ss ∧ badAt (dayList rows) [st0 a b] its 0 = badAt (dayList rows) ss (its.drop i) i ∧ ss.length = i + 1 ∧ total (curSt ss) = a.toNat)
      ⟨sz, [st0 a b], none, none, rfl, e02, ?_, Inn.zero hk.G.head, rfl, rfl, total0 (by omega)⟩ ?_ ?_⟩
    · have e : (curSt [st0 a b]).heaps = List.replicate b.toNat [] := rfl
      rw [e, List.map_replicate, List.map_replicate]
      exact hsz
    · rintro i σ H' hi ⟨sz, ss, y3, y4, rfl, ex, hsz, inn, hb, sl, tot⟩
      have hlt : i < its.length := by omega
      rw [List.drop_eq_getElem_cons hlt] at hb
      obtain ⟨di, hdi⟩ : ∃ di, di = its[i] := ⟨_, rfl⟩
      rw [← hdi] at hb
      obtain ⟨x, hxi, hxd⟩ := dats_get (i := i) (d := di) hx (by rw [List.getElem?_eq_getElem hlt, hdi])
      rw [show ((0 : Int) + (i : Nat)) = ((i : Nat) : Int) by omega]
      have rlt : rowIx ss (dayList rows) < (dayList rows).length := Nat.mod_lt _ d2
      obtain ⟨pd, hpd, dxd, hday⟩ := day_at hk.dv rlt
      have daysE : ∀ {H9 : Hp} {σ9 : L2.St}, Ex H H9 → σ9[0]? = some (some (.ref r)) → Ev (tFld K (tVar 0) "days") σ9 H9 (.ref q) := fun e9 h0 => ev_fld (ev_var h0) (e9 _ _ hk.ins) R.cl R.nd (ruleF_days p q a b)
      have rix : ((i : Nat) : Int) % (ds.length : Int) = ((rowIx ss (dayList rows) : Nat) : Int) := by
        rw [d1]
        unfold rowIx
        rw [sl, Nat.add_sub_cancel]
        rfl
      refine q_asg (v := .ref pd) (ev_ixQ (i := ((rowIx ss (dayList rows) : Nat) : Int)) (eq_of (daysE ex rfl) (.inl (ex _ _ hk.dy))) (ev_is (ev_op (ev_var rfl) (ev_lenQ (eq_of (daysE ex rfl) (.inl (ex _ _ hk.dy)))) (rv_I (show (0 : Int) < (ds.length : Int) by omega))) (congrArg V.int rix)) hpd) fun H4 e4 => ?_
      have e04 := ex.trans e4
      have chs : ∀ {H9 : Hp} {σ9 : L2.St}, Ex H H9 → σ9[1]? = some (some (.ref t)) → σ9[3]? = some (some (.int ((i : Nat) : Int))) → Ev (tOp (rIxT K) (tVar 1) (tVar 3)) σ9 H9 x := fun e9 h1 h3 => ev_ixQ (i := ((i : Nat) : Int)) (eq_of (ev_var h1) (ex_rd e9 ht)) (ev_var h3) (atI_nat hxi)
      have left : (a - (((curSt ss).heaps.map fun h => (h.length : Int)).sum)) = ((curSt ss).pile.length : Int) := by
        have e1 : (((curSt ss).heaps.map fun h => (h.length : Int)).sum) = (((curSt ss).heaps.map List.length).sum : Nat) := by
          induction (curSt ss).heaps with
          | nil => rfl
          | cons x xs ih => simp only [List.map_cons, List.sum_cons, ih]; omega
        rw [e1]
        unfold total at tot
        omega
      obtain ⟨g, hg⟩ : ∃ g : Bool, g = isLet (letsNow ss (dayList rows)) (intO di) := ⟨_, rfl⟩
      refine q_when (b := !g) (et_not (a := g) (et_B (fun H9 e9 Q9 q9 => (chs (e04.trans e9) rfl rfl) H9 (Ex.refl H9) _ fun H5 e5 => ⟨.ref pd, rfl, ?_⟩))) (fun z H5 e5 => ?_) (fun z H5 e5 => ?_)
      · have e95 := e9.trans e5
        refine (ev_is (ev_op (ev_ask (ev_var rfl) (hk.ext (e04.trans e95))) (ev_cb (z := .int (((curSt ss).heaps.map fun h => (h.length : Int)).sum)) (ea_cons (ev_var rfl) ea_nil) fun H6 e6 Q6 q6 => ⟨sz, _, rfl, .inl (ex_rd (e4.trans (e95.trans e6)) hsz), q6 H6 (Ex.refl H6)⟩) rv_I0) (congrArg V.int left)) H5 (Ex.refl H5) _ fun H6 e6 => ?_
        refine ⟨pd, _, _, rfl, ⟨dxd, (e04.trans (e95.trans e6)) _ _ hday⟩, fun u H7 e7 hu => ⟨x, u, intO di, _, rfl, intV_dat (Dat.mono ((e04.trans (e95.trans e6)).trans e7) hxd), hu, fun H8 e8 => ?_⟩⟩
        have : isLet (letsOf ((dayList rows).getD (rowIx ss (dayList rows)) dayNone) ((curSt ss).pile.length : Int)) (intO di) = g := hg.symm
        rw [this]
        exact q9 H8 (((e5.trans e6).trans e7).trans e8)
      · have z3 : g = false := by simpa using z
        have k4 : Res c H Q E nonR (some (7, .int (i : Int))) := by
          rw [hb] at k2
          unfold badAt at k2
          rw [if_neg (by rw [← hg, z3]; exact Bool.false_ne_true)] at k2
          exact k2
        have e05 := e04.trans e5
        exact raise_ini (H0 := H) (v := .int (i : Int)) rfl e05 (ea_cons (ev_var rfl) ea_nil) (by exact raises_own (Z 7 (by decide)).1 (Z 7 (by decide)).2) fun a H' na e' ha => k4 a _ H' (e05.trans e') (fresh_back e05 na) (.int _) ha
      · have z3 : g = true := by simpa using z
        obtain ⟨kk, rfl, c1⟩ := intO_let (hg.symm.trans z3)
        obtain rfl := int_dat hxd
        obtain ⟨k0, kp⟩ := let_pos hR c1
        have e05 := e04.trans e5
        have hl2 := inn.hl
        refine s_asgR (eq_is (eq_slice (eq_star rfl (ex_rd (e4.trans e5) hsz) (chs e05 rfl rfl) (by rw [List.length_map, List.length_map]; omega)) (eo_some ev_c) eo_none) (cut_from (by decide))) fun v H6 e6 ⟨sz2, ev, hsz2⟩ => ?_
        subst ev
        refine ⟨sz2, ss ++ [nextSt (dayList rows) ss kk], _, _, rfl, e05.trans e6, ?_, inn.next hR c1, ?_, by rw [List.length_append, sl]; rfl, by rw [cur_app, next_total]; exact tot⟩
        · rw [cur_app]
          have e8 : (nextSt (dayList rows) ss kk).heaps = ((curSt ss).heaps ++ [(curSt ss).pile.take kk.toNat]).drop 1 := rfl
          rw [e8, List.map_drop, List.map_drop, List.map_append, List.map_append]
          have e9 : (((curSt ss).pile.take kk.toNat).length : Int) = kk := by
            rw [List.length_take]
            omega
          simp only [List.map_cons, List.map_nil, e9]
          exact hsz2
        · rw [hb]
          exact if_pos (show isLet (letsNow ss (dayList rows)) (intO (.int kk)) = true from c1)
    · rintro σ H' ⟨sz, ss, y3, y4, rfl, ex, _, _, hb, _, _⟩
      rw [hb, List.drop_of_length_le (by omega)] at k2
      exact k2 .non H' ex rfl
end
end PW
namespace PW
open PySem PySem.Spec PyProof.Rows L2 Evl
/-! ### piles behind choices, with all that is refused -/

def NoC (K : PySem.W.Frag) (C : Addr) : Prop := ∀ a ∈ (["NoneType", "bool", "int", "str", "list", "tuple", "dict"] : List String), PySem.W.kitOne K (.type a) (.ref C) = some false
def spIntD : Sp := fun vs H Q _ => ∃ v d, vs = [v] ∧ Dat H v d ∧ ∀ H', Ex H H' → Q (.bl (isIntD d)) H'
def spWithD : Sp := fun vs H Q _ => ∃ v d lo hi, vs = [v, .int lo, .int hi] ∧ Dat H v d ∧ ∀ H', Ex H H' → Q (.bl (wholeD lo hi d)) H'
/-- a rule, or something else -/
def MineV (H : Hp) (C CD r p q dx : Addr) (rows : List Str) (a b : Int) (ds : List V) (m : V) : Option PyData → Prop
  | none => m = .ref r ∧ RuleK H C CD r p q dx rows a b ds (dayList rows) ∧ RowsM rows
  | some d => Dat H m d
theorem MineV.ext {H H' : Hp} {C CD r p q dx : Addr} {rows : List Str} {a b : Int} {ds : List V} {m : V} (e : Ex H H') : ∀ {o : Option PyData}, MineV H C CD r p q dx rows a b ds m o → MineV H' C CD r p q dx rows a b ds m o
  | none, ⟨x, y, z⟩ => ⟨x, y.ext e, z⟩
  | some _, h => Dat.mono e h
def mineOut (o : Option PyData) : Out := o.map fun d => (5, d)
def spCheckD (C CD : Addr) (c : Nat → Addr) : Sp := fun vs H Q E => ∃ (m : V) (o : Option PyData) (r p q dx : Addr) (rows : List Str) (a b : Int) (ds : List V), vs = [m] ∧ MineV H C CD r p q dx rows a b ds m o ∧ Res c H Q E nonR (mineOut o)
/-- f(..) as the last statement -/
theorem s_chk {c : Nat → Addr} {sp : Sp} {E : XK} {ta : TA} {vs : List V} {σ : L2.St} {H : Hp} {D : Ends} {Q : VK} {o : Out} (ha : EvA ta σ H vs) (h : ∀ H1, Ex H H1 → ∀ Q : VK, Res c H1 Q E nonR o → sp vs H1 Q E)
    (hD : ∀ H', Q .non H' → D.nx σ H') (k : Res c H Q E nonR o) : tDrop (tCall sp [] E ta) D σ H := by
  refine ha H (Ex.refl H) _ fun H1 e1 => ?_
  rw [List.append_nil]
  refine h H1 e1 _ ?_
  cases o with
  | none => exact fun z H' e' r => hD H' (k .non H' (e1.trans e') rfl)
  | some p => exact Res.ext (o := some p) (show Res c H _ E nonR (some p) from k) e1
theorem Res.bind {c : Nat → Addr} {H : Hp} {Q Q' : VK} {E : XK} {R R' : Hp → V → Prop} : ∀ {o : Out}, Res c H Q E R o → (o = none → ∀ v H', Ex H H' → R' H' v → (∀ z H'', Ex H H'' → R H'' z → Q z H'') → Q' v H') → Res c H Q' E R' o
  | none, h, f => fun v H' e r => f rfl v H' e r h
  | some p, h, f => h
theorem ints_inj {xs ys : List Int} (h : intsD xs = intsD ys) : xs = ys := by
  unfold intsD at h
  injection h with h
  induction xs generalizing ys with
  | nil => cases ys with
    | nil => rfl
    | cons y r => cases h
  | cons x r ih => cases ys with
    | nil => cases h
    | cons y s =>
      simp only [List.map_cons, List.cons.injEq, PyData.int.injEq] at h
      rw [h.1, ih h.2]
def ledOut (o : Option PyData) (dd : List DayD) (a b : Int) (d : PyData) : Out := (mineOut o).or (choicesOut dd a b d)
def pileR (CP r : Addr) (rows : List Str) (a b : Int) (d : PyData) : Hp → V → Prop := fun H v => ∃ x l dx cs ks, v = .ref x ∧ d = intsD ks ∧ PileK H CP x r l dx cs (runs (dayList rows) [st0 a b] ks)
def gR (g : List DayD → List PSt → List Int → PyData) (rows : List Str) (a b : Int) (d : PyData) : Hp → V → Prop := fun H v => ∃ ks, d = intsD ks ∧ LetR (dayList rows) [st0 a b] ks ∧ Dat H v (g (dayList rows) [st0 a b] ks)
def spLedPileD (C CD CP : Addr) (c : Nat → Addr) : Sp := fun vs H Q E => ∃ (m vv : V) (o : Option PyData) (r p q dx : Addr) (rows : List Str) (a b : Int) (ds : List V) (d : PyData), vs = [m, vv] ∧ MineV H C CD r p q dx rows a b ds m o ∧ Dat H vv d ∧ (itemsD d).length ≤ 1000 ∧
  Res c H Q E (pileR CP r rows a b d) (ledOut o (dayList rows) a b d)
def spLedD (C CD : Addr) (c : Nat → Addr) (g : List DayD → List PSt → List Int → PyData) : Sp := fun vs H Q E => ∃ (m vv : V) (o : Option PyData) (r p q dx : Addr) (rows : List Str) (a b : Int) (ds : List V) (d : PyData), vs = [m, vv] ∧ MineV H C CD r p q dx rows a b ds m o ∧ Dat H vv d ∧ (itemsD d).length ≤ 1000 ∧
  Res c H Q E (gR g rows a b d) (ledOut o (dayList rows) a b d)
theorem pile_newD {K : PySem.W.Frag} {c : Nat → Addr} {σ : L2.St} {H : Hp} {te : TE} {E : XK} {C CD CP r p q dxr : Addr} {rows : List Str} {a b : Int} {ds : List V} {m : V} {o : Option PyData} {Q : VK} (nc : NoC K C) (ha : Ev te σ H m) (hm : MineV H C CD r p q dxr rows a b ds m o)
    (k : o = none → ∀ x l dx cs H3, H x = none → H l = none → Ex H H3 → PileK H3 CP x r l dx cs [st0 a b] → Q (.ref x) H3)
    (bad : ∀ d, o = some d → ∀ a' v H', Ex H H' → H a' = none → Dat H' v d → H' a' = some (exd a' [(gW 5, v)]) → E (.ref (c 5)) (some a') H') : tMake CP (spPInit K C CD (c 5) CP) [] E (tCons te tNil) σ H Q := by
  refine ha H (Ex.refl H) _ fun H1 e1 => ?_
  intro x dx nx ndx ne
  obtain ⟨H2, eH2⟩ : ∃ H2, H2 = upd (upd H1 dx (.own x)) x (.ins CP dx []) := ⟨_, rfl⟩
  rw [← eH2]
  have x12 : ∀ c o, H1 c = some o → H2 c = some o := fun c o e => by rw [eH2, upd_ne (ne_of_none e nx), upd_ne (ne_of_none e ndx)]; exact e
  have hx2 : H2 x = some (.ins CP dx []) := by rw [eH2]; exact upd_same
  have back : ∀ {l : Addr}, H2 l = none → H l = none := fun {l} nl => by
    cases hq : H l with
    | none => rfl
    | some o => rw [x12 _ _ (e1 _ _ hq)] at nl; cases nl
  have m2 := (hm.ext e1).ext (H' := H2) x12
  cases o with
  | none =>
    obtain ⟨rfl, hk2, _⟩ := m2
    refine ⟨x, dx, .ref r, rfl, hx2, .inl ⟨r, p, q, dxr, rows, a, b, ds, _, rfl, hk2, fun l cs H3 nl keep hp => ⟨rfl, ?_⟩⟩⟩
    exact k rfl x l dx cs H3 (fresh_back e1 nx) (back nl) (e1.trans fun c o e => keep c o (ne_of_none e nx) (x12 _ _ e)) hp
  | some d =>
    have d2 : Dat H2 m d := m2
    exact ⟨x, dx, m, rfl, hx2, .inr ⟨⟨.type (tyN d), fun H3 e3 => ty_dat (Dat.mono e3 d2), nc _ (tyN_mem d)⟩, fun a' H' na e' ha' => bad d rfl a' m H' ((e1.trans x12).trans e') (back na) (Dat.mono e' d2) ha'⟩⟩
section
variable {P : Program} {w : World} {K : PySem.W.Frag} {mg : Str → Option Value} {base : Heap} {c ff : Nat → Addr} {fdd : Nat → FuncData} {C CD CP CN CI CL fi fy gr gp ga f fI fW fA fP fK fC fLP fCo fU fM : Addr} {di dy dr dp da fd dI dW dA dP dK dC dLP dCo dU dM : FuncData} {g : Nat → Addr} {gd : Nat → FuncData} {j : Nat}
theorem ok_intD (F : Fun K "is_integer" "is_integer" sIsInt f fd) (B : Blt mg) : FnOk P w K mg base CX0 (j + 1) f fd ["value"] spIntD := by
  refine F.ok scIsInt (fun vs H Q E h => ?_) (fun cdv A outer s H vs Q E hr h => ?_)
  · obtain ⟨v, d, rfl, _⟩ := h
    rfl
  · obtain ⟨v, d, rfl, hd, k⟩ := h
    refine ⟨_, (pss_one (ps_ret (pe_and (pe_callB call_isi (by rfl) B.isi bIsi (pa_cons (pv 0) (pa_cons (pe_bltn (v := .ty "int") (by rfl) B.int bInt rfl) pa_nil))) (pe_one (pe_not (pe_callB call_isi (by rfl) B.isi bIsi (pa_cons (pv 0) (pa_cons (pe_bltn (v := .ty "bool") (by rfl) B.bool bBool rfl) pa_nil)))))))), ?_⟩
    refine s_ret (v := .bl (isIntD d)) (ev_is (ev_andV (a := isTy "int" d) (b := !isTy "bool" d) (ev_isD (ev_var rfl) ev_c hd known_int) (fun _ => ev_notV (ev_isD (ev_var rfl) ev_c hd known_bool))) ?_) fun H1 e1 => k H1 e1
    rw [isInt_of]
theorem ok_withD (II : Cl8 P w K mg base "is_integer" fI dI ["value"] (j + 1) spIntD) (F : Fun K "integer_within" "integer_within" sWithin f fd) : FnOk P w K mg base CX0 (j + 2) f fd ["value", "least", "most"] spWithD := by
  refine F.ok scWithin (fun vs H Q E h => ?_) (fun cdv A outer s H vs Q E hr h => ?_)
  · obtain ⟨v, d, lo, hi, rfl, _⟩ := h
    rfl
  · obtain ⟨v, d, lo, hi, rfl, hd, k⟩ := h
    refine ⟨_, (pss_one (ps_ret (pe_and (pe_call II.G hr (by rfl) II.m II.k II.b .nil pass0 (pa_cons (pv 0) pa_nil)) (pe_one (pe_chain op_le op_le (pv 1) (pv 0) (pv 2)))))), ?_⟩
    refine s_ret (v := .bl (wholeD lo hi d)) (ev_is (ev_andV (a := isIntD d) (b := wholeD lo hi d) (ev_call (z := .bl (isIntD d)) (ea_cons (ev_var rfl) ea_nil) fun H1 e1 Q1 q1 _ => ⟨v, d, rfl, Dat.mono e1 hd, fun H2 e2 => q1 H2 e2⟩) (fun z => ?_)) ?_) fun H1 e1 => k H1 e1
    · obtain ⟨n, rfl⟩ := isIntD_int z
      obtain rfl := int_dat hd
      exact ev_chain (ev_var rfl) (ev_var rfl) (ev_var rfl) rv_I0 (fun _ => rv_I0)
    · cases d <;> rfl
theorem ok_checkD (E0' : Errs K mg c ff fdd) (Z : Rz K c) (I : IsC K C) (R : Ru K C) (nc : NoC K C) (F : Fun K "check_rule" "check_rule" sCheck f fd) (B : Blt mg) (mC : mg "Rule" = some (.ref C)) : FnOk P w K mg base (L2.CX P w) (j + 3) f fd ["rule"] (spCheckD C CD c) := by
  have T5 := E0'.xc 5 (by decide)
  have GI5 : FnOk P w K mg base CX0 1 (ff 5) (fdd 5) ["self", "given"] (spIni (c 5) "given") := ok_ini5 E0'.F5 T5 E0'.n5g
  refine F.okX scCheck (fun vs H Q E h => ?_) (fun cdv A outer s H vs Q E hr h => ?_)
  · obtain ⟨m, o, r, p, q, dx, rows, a, b, ds, rfl, _⟩ := h
    rfl
  · obtain ⟨m, o, r, p, q, dx, rows, a, b, ds, rfl, hm, k⟩ := h
    have hr2 := hr.mono (j := 2) (by omega)
    refine ⟨_, (pss_one (ps_if (pt_not (pt_val (pe_callB call_isi (by rfl) B.isi bIsi (pa_cons (pv 0) (pa_cons (pe_glob (v := .ref C) (by rfl) mC rfl) pa_nil))))) (pss_one (ps_raise rfl (takes_of rfl rfl rfl rfl) (pmk_exo rfl (pe_mkX T5 E0'.i5 E0'.t5 GI5 hr2 (by rfl) E0'.g5 (pa_cons (pv 0) pa_nil) (bn5 E0'.F5))))) pss_nil)), ?_⟩
    cases o with
    | none =>
      obtain ⟨rfl, hk, _⟩ := hm
      exact s_when (b := false) (et_is (et_not (et_B (ev_isi (ev_var rfl) ev_c (.own _) (fun H1 e1 => I.ty R (e1 _ _ hk.ins)) kit_self))) rfl) (fun z => nomatch z) fun _ H1 e1 => k .non H1 e1 rfl
    | some d =>
      refine s_when (b := true) (et_is (et_not (et_B (ev_isi (ev_var rfl) ev_c (.own _) (fun H1 e1 => ty_dat (Dat.mono e1 hm)) (nc _ (tyN_mem d))))) rfl) (fun _ H1 e1 => ?_) (fun z => nomatch z)
      exact raise_ini (H0 := H) rfl e1 (ea_cons (ev_var rfl) ea_nil) (by exact raises_own (Z 5 (by decide)).1 (Z 5 (by decide)).2) fun a H' na e' ha => k a m H' (e1.trans e') (fresh_back e1 na) (Dat.mono (e1.trans e') hm) ha
theorem ok_ledpileD (nc : NoC K C) (CC : Cl8X P w K mg base "check_choices" fC dC ["rule", "choices"] 8 (spChoicesD C CD c)) (F : Fun K "led_pile" "led_pile" sLedPile f fd) (PA : PlA P w K mg base C CD CP (c 5) CI CL fi fy di dy g gd) : FnOk P w K mg base (L2.CX P w) 9 f fd ["rule", "choices"] (spLedPileD C CD CP c) := by
  refine F.okX scLedPile (fun vs H Q E h => ?_) (fun cdv A outer s H vs Q E hr h => ?_)
  · obtain ⟨m, vv, o, r, p, q, dx, rows, a, b, ds, d, rfl, _⟩ := h
    rfl
  · obtain ⟨m, vv, o, r, p, q, dxr, rows, a, b, ds, d, rfl, hm, hd, hz, k0⟩ := h
    have hr7 := hr.mono (j := 7) (by decide)
    have hr6 := hr.mono (j := 6) (by decide)
    refine ⟨_, (pss_cons (ps_set (i := 2) scLedPile.nd rfl (.inl rfl) (pe_make PA.M PA.Gi hr7 (by rfl) PA.m PA.bi .nil (passes_call (takes_of rfl rfl rfl rfl) fun _ _ _ _ z => z) (pa_cons (pv 0) pa_nil)))
      (pss_cons (ps_expr (pe_call CC.G hr (by rfl) CC.m CC.k CC.b .nil (passes_call (takes_of rfl rfl rfl rfl) fun _ _ _ _ z => z) (pa_cons (pv 0) (pa_cons (pv 1) pa_nil))))
      (pss_cons (ps_for (passes_of rfl) rfl (pi_tup (pv 1)) (pg_name (i := 3) scLedPile.nd rfl (Or.inl rfl)) (pss_one (ps_expr (pe_meth (pv 2) PA.PC.cl PA.hy PA.Gy hr6 PA.by_ .nil (E := E0) passL (pa_cons (pv 3) pa_nil)))))
      (pss_one (ps_ret (pv 2)))))), ?_⟩
    refine q_asgE' (pile_newD (c := c) nc (ev_var rfl) hm (fun eo x l dx cs H3 nx nl e3 hp => ?_) (fun d' eo => ?_))
    rotate_left
    · subst eo
      exact fun a' v H' e' na hd' ha => k0 a' v H' e' na hd' ha
    subst eo
    obtain ⟨rfl, hk, hR⟩ := hm
    replace k0 : Res c H Q E (pileR CP r rows a b d) (choicesOut (dayList rows) a b d) := k0
    refine q_chk (c := c) (o := choicesOut (dayList rows) a b d) (ea_cons (ev_var rfl) (ea_cons (ev_var rfl) ea_nil)) (fun H1 e1 Q1 q1 => ⟨r, p, q, dxr, vv, rows, a, b, ds, d, rfl, hk.ext (e3.trans e1), hR, Dat.mono (e3.trans e1) hd, hz, q1⟩) (fun i dd e Q1 => ?_) (fun ec H4 e4 => ?_)
    · rw [e] at k0
      exact (Res.bad k0).ext e3
    rw [ec] at k0
    obtain ⟨ks, rfl, hlet⟩ := choices_none ec
    obtain ⟨t, rfl, ht⟩ := ints_dat hd
    have il : (itemsD (intsD ks)).length = ks.length := by unfold intsD itemsD; rw [List.length_map]
    rw [il] at hz
    have e04 := e3.trans e4
    have k : ∀ x l dx cs H', Ex H H' → PileK H' CP x r l dx cs (runs (dayList rows) [st0 a b] ks) → Q (.ref x) H' := fun x l dx cs H' e hp => k0 (.ref x) H' e ⟨x, l, dx, cs, ks, rfl, rfl, hp⟩
    refine (?_ : tSeq _ _ _ _ _)
    refine ⟨.ref t, rfl, t, rfl, ⟨_, .inl (ex_rd e04 ht)⟩, for_tup (K := K) (a := t) (xs := ks.map V.int)
      (fun i σ H' => ∃ (cs : List V) (ss : List PSt) (y : Option V), σ = [some (.ref r), some (.ref t), some (.ref x), y] ∧ Ex H H' ∧ PileK H' CP x r l dx cs ss ∧ Inn rows ss ∧ LetR (dayList rows) ss (ks.drop i) ∧ runs (dayList rows) ss (ks.drop i) = runs (dayList rows) [st0 a b] ks ∧ ss.length = i + 1)
      ⟨cs, [st0 a b], none, rfl, e04, hp.ext e4, Inn.zero hk.G.head, hlet, rfl, rfl⟩ (fun i σ H' _ ⟨_, _, _, _, ex, _⟩ => .inl (ex_rd ex ht)) ?_ ?_⟩
    · rintro i y σ H' hi ⟨cs, ss, yo, rfl, ex, hp', inn, hl, hrun, sl⟩
      obtain ⟨kk, hkk, rfl⟩ : ∃ kk, ks[i]? = some kk ∧ V.int kk = y := by
        rw [List.getElem?_map] at hi
        exact Option.map_eq_some_iff.mp hi
      have hlt := (List.getElem?_eq_some_iff.mp hkk).1
      rw [drop_cons hkk] at hl hrun
      obtain ⟨c1, c2⟩ := hl
      refine day_go (ev_var rfl) (ev_var rfl) hp' (hk.ext ex) inn.pos (by omega) inn.fit c1 fun u c H5 far hp5 hd5 => ?_
      exact ⟨cs ++ [c], ss ++ [nextSt (dayList rows) ss kk], _, rfl, fun c o e => far _ _ (ne_of_none e nl) (ex _ _ e), hp5, inn.next hR c1, c2, hrun, by rw [List.length_append, sl]; rfl⟩
    · rintro σ H' ⟨cs, ss, yo, rfl, ex, hp', inn, hl, hrun, sl⟩
      rw [List.length_map, List.drop_length] at hrun
      have hrun' : ss = runs (dayList rows) [st0 a b] ks := hrun
      refine s_ret (ev_var rfl) fun H6 e6 => k x l dx cs H6 (ex.trans e6) ?_
      rw [← hrun']
      exact hp'.ext e6
theorem ok_courseD (B : Blt mg) (nc : NoC K C) (CC : Cl8X P w K mg base "check_choices" fC dC ["rule", "choices"] 8 (spChoicesD C CD c)) (F : Fun K "course" "course" sCourse f fd) (PA : PlA P w K mg base C CD CP (c 5) CI CL fi fy di dy g gd) : FnOk P w K mg base (L2.CX P w) 9 f fd ["rule", "choices"] (spLedD C CD c courseOf) := by
  refine F.okX scCourse (fun vs H Q E h => ?_) (fun cdv A outer s H vs Q E hr h => ?_)
  · obtain ⟨m, vv, o, r, p, q, dx, rows, a, b, ds, d, rfl, _⟩ := h
    rfl
  · obtain ⟨m, vv, o, r, p, q, dxr, rows, a, b, ds, d, rfl, hm, hd, hz, k0⟩ := h
    have hr7 := hr.mono (j := 7) (by decide)
    have hr6 := hr.mono (j := 6) (by decide)
    refine ⟨_, (pss_cons (ps_set (i := 2) scCourse.nd rfl (.inr rfl) (pe_make PA.M PA.Gi hr7 (by rfl) PA.m PA.bi .nil (passes_call (takes_of rfl rfl rfl rfl) fun _ _ _ _ z => z) (pa_cons (pv 0) pa_nil)))
      (pss_cons (ps_expr (pe_call CC.G hr (by rfl) CC.m CC.k CC.b .nil (passes_call (takes_of rfl rfl rfl rfl) fun _ _ _ _ z => z) (pa_cons (pv 0) (pa_cons (pv 1) pa_nil))))
      (pss_one (ps_ret (pe_callTy call_tuple_of (by rfl) B.tuple bTuple (pa_cons (pe_lc (own := [("number", 3)]) (g := gName 3) (tt := tYes) rfl scCourse.nd (pi_tup (pv 1)) (blkOk_by (N := ["rule", "choices", "pile", "number"]) (sc := defScope sCourse) (by decide +kernel)) (fun _ _ _ _ _ => pg_name (i := 3) scCourse.nd rfl (Or.inl rfl)) (fun _ _ _ _ _ => pts_nil) (fun _ _ _ _ _ => (pe_meth (pv 2) PA.PC.cl PA.hy PA.Gy hr6 PA.by_ .nil (E := E0) passL (pa_cons (pv 3) pa_nil)))) pa_nil)))))), ?_⟩
    refine q_asgE' (pile_newD (c := c) nc (ev_var rfl) hm (fun eo x l dx cs H3 nx nl e3 hp => ?_) (fun d' eo => ?_))
    rotate_left
    · subst eo
      exact fun a' v H' e' na hd' ha => k0 a' v H' e' na hd' ha
    subst eo
    obtain ⟨rfl, hk, hR⟩ := hm
    replace k0 : Res c H Q E (gR courseOf rows a b d) (choicesOut (dayList rows) a b d) := k0
    refine q_chk (c := c) (o := choicesOut (dayList rows) a b d) (ea_cons (ev_var rfl) (ea_cons (ev_var rfl) ea_nil)) (fun H1 e1 Q1 q1 => ⟨r, p, q, dxr, vv, rows, a, b, ds, d, rfl, hk.ext (e3.trans e1), hR, Dat.mono (e3.trans e1) hd, hz, q1⟩) (fun i dd e Q1 => ?_) (fun ec H4 e4 => ?_)
    · rw [e] at k0
      exact (Res.bad k0).ext e3
    rw [ec] at k0
    obtain ⟨ks, rfl, hlet⟩ := choices_none ec
    obtain ⟨t, rfl, ht⟩ := ints_dat hd
    have il : (itemsD (intsD ks)).length = ks.length := by unfold intsD itemsD; rw [List.length_map]
    rw [il] at hz
    have k : ∀ v H', Ex H H' → Dat H' v (courseOf (dayList rows) [st0 a b] ks) → Q v H' := fun v H' e h => k0 v H' e ⟨ks, rfl, hlet, h⟩
    have e04 := e3.trans e4
    refine ⟨.ref t, rfl, t, rfl, ⟨ks.map V.int, .inl (ex_rd e04 ht)⟩, fun Dl hD => lc_tup (K := K) (a := t) (xs := ks.map V.int)
      (fun i H' => ∃ (cs acc : List V) (ss : List PSt) (ud : List (List Int)), Ex H H' ∧ H' Dl = some (.lst acc) ∧ Dats H' acc (ud.map intsD) ∧ acc.length = i ∧ PileK H' CP x r l dx cs ss ∧ Inn rows ss ∧ LetR (dayList rows) ss (ks.drop i) ∧ runs (dayList rows) ss (ks.drop i) = runs (dayList rows) [st0 a b] ks ∧ ud ++ takes (dayList rows) ss (ks.drop i) = takes (dayList rows) [st0 a b] ks ∧ ss.length = i + 1)
      ⟨cs, [], [st0 a b], [], e04.trans (Ex.new hD), upd_same, .nil, rfl, (hp.ext e4).ext (Ex.new hD), Inn.zero hk.G.head, hlet, rfl, rfl, rfl⟩ (fun i H' _ ⟨_, _, _, _, ex, _⟩ => .inl (ex_rd ex ht)) ?_ ?_⟩
    · rintro i y H' hi ⟨cs, acc, ss, ud, ex, hDl, hac, al, hp', inn, hl, hrun, htk, sl⟩
      obtain ⟨kk, hkk, rfl⟩ : ∃ kk, ks[i]? = some kk ∧ V.int kk = y := by
        rw [List.getElem?_map] at hi
        exact Option.map_eq_some_iff.mp hi
      have hlt := (List.getElem?_eq_some_iff.mp hkk).1
      rw [drop_cons hkk] at hl hrun htk
      obtain ⟨c1, c2⟩ := hl
      refine ⟨rfl, ?_⟩
      have nD : H Dl = none := fresh_back e04 hD
      have lD : l ≠ Dl := fun z => by
        have h4 := e4 _ _ hp.crs
        rw [z, hD] at h4
        cases h4
      refine day_go (ev_var rfl) (ev_var rfl) hp' (hk.ext ex) inn.pos (by omega) inn.fit c1 fun u c H5 far hp5 hd5 => ⟨acc, far _ _ lD.symm hDl, sz_lt (by omega), ?_⟩
      obtain ⟨H6, eH6⟩ : ∃ H6, H6 = upd H5 Dl (.lst (acc ++ [u])) := ⟨_, rfl⟩
      rw [← eH6]
      have hD5 := far _ _ lD.symm hDl
      have b6 : But Dl H5 H6 := fun c o n e => by rw [eH6, upd_ne n]; exact e
      have keep6 : ∀ p ys, Rd H5 p (.tup ys) → Rd H6 p (.tup ys) := tup_stay hD5 b6
      have xD : x ≠ Dl := fun z => by
        have h5 := hp5.ins
        rw [z, hD5] at h5
        cases h5
      refine ⟨cs ++ [c], acc ++ [u], ss ++ [nextSt (dayList rows) ss kk], ud ++ [(curSt ss).pile.take kk.toNat], fun c o e => b6 _ _ (ne_of_none e nD) (far _ _ (ne_of_none e nl) (ex _ _ e)), by rw [eH6]; exact upd_same, ?_, by rw [List.length_append, al]; rfl, ⟨b6 _ _ xD hp5.ins, b6 _ _ lD hp5.crs, ?_⟩, inn.next hR c1, c2, hrun, by rw [List.append_assoc]; exact htk, by rw [List.length_append, sl]; rfl⟩
      · rw [List.map_append]
        exact dats_app (listInts_keep (fun p ys h => keep6 _ _ (tup_stay hp'.crs far _ _ h)) hac) (.cons (ints_keep keep6 hd5) .nil)
      · exact stNs_far (l := Dl) (H := hide l H5) (by rw [hide_ne lD.symm]; exact hD5) (fun _ z => by cases z) (fun _ _ z => by cases z) (hide_keep fun b u n e => b6 b u n e) hp5.nst
    · rintro H' ⟨cs, acc, ss, ud, ex, hDl, hac, al, hp', inn, hl, hrun, htk, sl⟩
      rw [List.length_map, List.drop_length] at htk
      have htk' : ud = takes (dayList rows) [st0 a b] ks := by
        rw [← htk]
        exact (List.append_nil _).symm
      refine ⟨Dl, acc, rfl, .inl ⟨sq_of hDl, fun t2 nt => k _ _ (ex.trans (Ex.new nt)) ?_⟩⟩
      unfold courseOf
      rw [← htk']
      exact .tup (.inl upd_same) (Dats.mono (Ex.new nt) hac)
end
end PW
namespace PW
open PySem PySem.Spec PyProof.Rows L2 Evl
/-! ### the drawn rows -/
def cat (a b : Str) : Str := a ++ b
def wheresW : List Str := ["top", "bottom", "under 1", "under 2", "under " ++ txt 1, "under " ++ txt 2, "under " ++ txt 3, "under " ++ txt 4]
def takesW : List Str := ([0, 1, 2] : List Int).flatMap fun l => ([0, 1, 2] : List Int).flatMap fun d => wheresW.flatMap fun wh => keptW.map fun k => mkTake l (l + d) wh k
def cutsW : List Str := ([1, 2, 3] : List Int).map fun n => "cut " ++ txt n
def daysW : List Str := takesW ++ ((["turn", "rest"] : List Str) ++ cutsW) ++ ([] : List Str)
def mkHeadS (m : Int) (a : Str) : Str := "plates " ++ txt m ++ " away " ++ a
def headsW : List Str := ([2, 3, 4] : List Int).flatMap (fun m => [mkHeadS m "0", mkHeadS m "1"]) ++ ([] : List Str)
def headOkS (s : Str) : Bool := match firstOf s with
  | some (a, b) => (PySem.intText? ((Txt.split s " ").getD 1 "") == some a) && (PySem.intText? ((Txt.split s " ").getD 3 "") == some b) && decide (a.natAbs < 100) && decide (b.natAbs < 100) && decide ((Txt.split s " ").length = 4)
  | none => false
theorem days_ok : daysW.all (fun s => isDay s && fineW s && noNl s && decide (s.length ≤ 100)) = true := by decide +kernel
theorem heads_ok : headsW.all (fun s => headOkS s && fineW s && noNl s && decide (s.length ≤ 100)) = true := by decide +kernel
/-- rows of a rule as they are drawn -/
structure Rows (ss : List Str) : Prop where
  two : 2 ≤ ss.length
  seven : ss.length ≤ 7
  head : ss.getD 0 "" ∈ headsW
  days : ∀ i, 1 ≤ i → i < ss.length → ss.getD i "" ∈ daysW
theorem Rows.good {ss : List Str} (r : Rows ss) : ∃ a b, Good ss a b := by
  have h := List.all_eq_true.mp heads_ok _ r.head
  simp only [Bool.and_eq_true] at h
  obtain ⟨⟨⟨h1, h2⟩, h3⟩, h4⟩ := h
  have hd : ∀ i, 1 ≤ i → i < ss.length → isDay (ss.getD i "") = true ∧ fineW (ss.getD i "") = true := fun i h1 h2 => by
    have z := List.all_eq_true.mp days_ok _ (r.days i h1 h2)
    simp only [Bool.and_eq_true] at z
    exact ⟨z.1.1.1, z.1.1.2⟩
  unfold headOkS at h1
  cases hf : firstOf (ss.getD 0 "") with
  | none =>
    rw [hf] at h1
    cases h1
  | some ab =>
    obtain ⟨a, b⟩ := ab
    refine ⟨a, b, r.two, r.seven, hf, fun x hx => ?_, fun i i1 i2 => (hd i i1 i2).1⟩
    obtain ⟨i, hi, rfl⟩ := List.mem_iff_getElem.mp hx
    have e : ss[i] = ss.getD i "" := by simp [List.getElem?_eq_getElem hi]
    rw [e]
    by_cases z : i = 0
    · subst z
      exact h2
    · exact (hd i (by omega) hi).2end PW
namespace PW
open PySem PySem.Spec PyProof.Rows L2 Evl
/-! ### rows drawn -/
theorem mem_takes {l d : Int} {wh k : Str} (h1 : l ∈ ([0, 1, 2] : List Int)) (h2 : d ∈ ([0, 1, 2] : List Int)) (h3 : wh ∈ wheresW) (h4 : k ∈ keptW) : mkTake l (l + d) wh k ∈ takesW :=
  List.mem_flatMap.mpr ⟨l, h1, List.mem_flatMap.mpr ⟨d, h2, List.mem_flatMap.mpr ⟨wh, h3, List.mem_map.mpr ⟨k, h4, rfl⟩⟩⟩⟩
theorem in3 {l : Int} (h0 : 0 ≤ l) (h1 : l < 3) : l ∈ ([0, 1, 2] : List Int) := by
  have : l = 0 ∨ l = 1 ∨ l = 2 := by omega
  rcases this with rfl | rfl | rfl <;> simp
theorem wheres_short : ∀ x ∈ wheresW, x.length ≤ 20 := by decide +kernel
theorem kept_short : ∀ x ∈ keptW, x.length ≤ 20 := by decide +kernel
section
variable {K : PySem.W.Frag} {σ : L2.St} {H : Hp} {p : Addr} {Q : VK} {E : XK}
end
def spTakeL : Sp := fun vs H Q _ => ∃ (p : Addr) (m : Int), vs = [.ref p, .int m] ∧ SpringAt H p ∧ ∀ x H', x ∈ takesW → But p H H' → SpringAt H' p → Q (.str x) H'
abbrev sTakeL : Stmt := top 75
theorem scTakeL : FnScope ["_law_spring_here", "_law_many", "_law_least", "_law_most_now", "_law_where"] ["_law_spring_here", "_law_many"] (defScope sTakeL) := ⟨rfl, rfl, rfl, by decide +kernel, rfl, by decide +kernel, by decide +kernel⟩
section
variable {P : Program} {w : World} {K : PySem.W.Frag} {mg : Str → Option Value} {base : Heap}
variable {fD fO : Addr} {dD dO : FuncData}
theorem ok_takeL {f : Addr} {fd : FuncData} {j : Nat} (F : Fun K "_law_take" "_law_take" sTakeL f fd) (B : Blt mg) (W : Drw K mg fD fO dD dO) :
    FnOk P w K mg base CX0 (j + 3) f fd ["_law_spring_here", "_law_many"] spTakeL := by
  have GD : FnOk P w K mg base CX0 (j + 2) fD dD ["_law_spring_here", "_law_size"] spDraw := ok_draw W.D B
  have GO : FnOk P w K mg base CX0 (j + 2) fO dO ["_law_spring_here", "_law_menu"] (spOf K) := ok_of W.O B W.D W.bD W.mD
  refine F.ok scTakeL (fun vs H Q E h => ?_) (fun cdv A outer s H vs Q E hr h => ?_)
  · obtain ⟨p, m, rfl, _⟩ := h
    rfl
  · obtain ⟨p, m, rfl, sp, k⟩ := h
    refine ⟨_, (pss_cons (ps_set (i := 2) scTakeL.nd rfl (.inl rfl) (pe_ifExp (pt_cmpR op_gt (pv 1) pe_int (nomark _)) (pe_call GO hr (by rfl) W.mO W.O.kp W.bO .nil pass0 (pa_cons (pv 0) (pa_cons (pe_lst (pa_cons pe_int (pa_cons pe_int (pa_cons pe_int (pa_cons pe_int (pa_cons pe_int pa_nil)))))) pa_nil))) (pe_call GO hr (by rfl) W.mO W.O.kp W.bO .nil pass0 (pa_cons (pv 0) (pa_cons (pe_lst (pa_cons pe_int (pa_cons pe_int (pa_cons pe_int pa_nil)))) pa_nil)))))
      (pss_cons (ps_set (i := 3) scTakeL.nd rfl (.inl rfl) (pe_op op_add (pv 2) (pe_call GD hr (by rfl) W.mD W.D.kp W.bD .nil pass0 (pa_cons (pv 0) (pa_cons pe_int pa_nil)))))
      (pss_cons (ps_set (i := 4) scTakeL.nd rfl (.inl rfl) (pe_call GO hr (by rfl) W.mO W.O.kp W.bO .nil pass0 (pa_cons (pv 0) (pa_cons (pe_lst (pa_cons pe_str (pa_cons pe_str (pa_cons pe_str (pa_cons pe_str (pa_cons pe_str (pa_cons (pe_op op_add_str pe_str (pe_callTy call_str_int (by rfl) B.str bStr (pa_cons (pe_op op_add pe_int (pe_call GD hr (by rfl) W.mD W.D.kp W.bD .nil pass0 (pa_cons (pv 0) (pa_cons pe_int pa_nil)))) pa_nil))) pa_nil))))))) pa_nil))))
      (pss_one (ps_ret (pe_op op_add_str (pe_op op_add_str (pe_op op_add_str (pe_op op_add_str (pe_op op_add_str (pe_op op_add_str (pe_op op_add_str pe_str (pe_callTy call_str_int (by rfl) B.str bStr (pa_cons (pv 2) pa_nil))) pe_str) (pe_callTy call_str_int (by rfl) B.str bStr (pa_cons (pv 3) pa_nil))) pe_str) (pv 4)) pe_str) (pe_call GO hr (by rfl) W.mO W.O.kp W.bO .nil pass0 (pa_cons (pv 0) (pa_cons (pe_lst (pa_cons pe_str (pa_cons pe_str pa_nil))) pa_nil))))))))), ?_⟩
    have one : ∀ {Q : VK}, (∀ l H1, l ∈ ([0, 1, 2] : List Int) → But p H H1 → SpringAt H1 p → Q (.int l) H1) → (tIf (tTest (tOp (rI0 fun i j => .bl (decide (j < i))) (tVar 1) (tC (.int 2))))
        (tCall (spOf K) [] E0 (tCons (tVar 0) (tCons (tLst (tCons (tC (.int 0)) (tCons (tC (.int 1)) (tCons (tC (.int 1)) (tCons (tC (.int 1)) (tCons (tC (.int 2)) tNil)))))) tNil)))
        (tCall (spOf K) [] E0 (tCons (tVar 0) (tCons (tLst (tCons (tC (.int 0)) (tCons (tC (.int 1)) (tCons (tC (.int 1)) tNil)))) tNil)))) [some (.ref p), some (.int m), none, none, none] H Q := by
      intro Q q
      refine ⟨.int m, rfl, m, 2, rfl, rfl, _, rfl, ?_⟩
      by_cases z : 2 < m
      · rw [decide_eq_true z]
        refine iteT (of_ev (vs := [.int 0, .int 1, .int 1, .int 1, .int 2]) (el_lst (ea_cons ev_c (ea_cons ev_c (ea_cons ev_c (ea_cons ev_c (ea_cons ev_c ea_nil))))) (Nat.le_of_ble_eq_true rfl)) rfl sp (by decide) (by decide) fun x H1 hx but sp1 => ?_)
        simp only [List.mem_cons, List.mem_nil_iff, or_false] at hx
        rcases hx with rfl | rfl | rfl | rfl | rfl <;> exact q _ H1 (by decide) but sp1
      · rw [decide_eq_false z]
        refine iteF (of_ev (vs := [.int 0, .int 1, .int 1]) (el_lst (ea_cons ev_c (ea_cons ev_c (ea_cons ev_c ea_nil))) (Nat.le_of_ble_eq_true rfl)) rfl sp (by decide) (by decide) fun x H1 hx but sp1 => ?_)
        simp only [List.mem_cons, List.mem_nil_iff, or_false] at hx
        rcases hx with rfl | rfl | rfl <;> exact q _ H1 (by decide) but sp1
    refine one fun l H1 hl but1 sp1 => ?_
    refine ⟨.int l, rfl, draw_ev (n := 3) rfl sp1 (by decide) (by decide) fun d H2 d0 d1 but2 sp2 => ⟨l, d, rfl, rfl, ?_⟩⟩
    have hd := in3 d0 d1
    have l02 : 0 ≤ l ∧ l < 3 := by
      simp only [List.mem_cons, List.mem_nil_iff, or_false] at hl
      omega
    refine ⟨.ref p, rfl, draw_ev (n := 4) rfl sp2 (by decide) (by decide) fun u H3 u0 u1 but3 sp3 => ⟨1, u, rfl, rfl, 1 + u, rfl, (small_num (by omega) (by omega)).1, "under ", txt (1 + u), rfl, rfl, ?_, ?_, fun pl npl => ?_⟩⟩
    · have := (small_num (n := 1 + u) (by omega) (by omega)).2
      exact Nat.le_trans (Nat.add_le_add_left this _) (by decide)
    · show 6 ≤ sizeLine
      decide
    have e3 := Ex.new (o := .lst [V.str "top", .str "bottom", .str "bottom", .str "under 1", .str "under 2", .str ((("under " : Str)) ++ txt (1 + u))]) npl
    refine ⟨p, pl, _, rfl, sq_of upd_same, fun z => sp3.some (z ▸ npl), by show 0 < 6; decide, by show 6 < 1000000; decide, sp3.ext e3, fun x H4 hx but4 sp4 => ?_⟩
    obtain ⟨wh, rfl, hw⟩ : ∃ wh, x = .str wh ∧ wh ∈ wheresW := by
      simp only [List.mem_cons, List.mem_nil_iff, or_false] at hx
      have u4 : u = 0 ∨ u = 1 ∨ u = 2 ∨ u = 3 := by omega
      rcases hx with rfl | rfl | rfl | rfl | rfl | rfl
      · exact ⟨_, rfl, by decide +kernel⟩
      · exact ⟨_, rfl, by decide +kernel⟩
      · exact ⟨_, rfl, by decide +kernel⟩
      · exact ⟨_, rfl, by decide +kernel⟩
      · exact ⟨_, rfl, by decide +kernel⟩
      · rcases u4 with rfl | rfl | rfl | rfl <;> exact ⟨_, rfl, by decide +kernel⟩
    have s1 := small_num (n := l) l02.1 (by omega)
    have s2 := small_num (n := l + d) (by omega) (by omega)
    have s3 := wheres_short _ hw
    refine ⟨.int l, rfl, l, rfl, s1.1, "take ", txt l, rfl, rfl, ?_, _, " to ", rfl, rfl, ?_, .int (l + d), rfl, l + d, rfl, s2.1, _, txt (l + d), rfl, rfl, ?_, _, " back ", rfl, rfl, ?_, .str wh, rfl, _, wh, rfl, rfl, ?_, _, " ", rfl, rfl, ?_, ?_⟩
    rotate_left 6
    · refine of_ev (vs := [.str "kept", .str "turned"]) (el_lst (ea_cons ev_c (ea_cons ev_c ea_nil)) (Nat.le_of_ble_eq_true rfl)) rfl sp4 (by decide) (by decide) fun y H5 hy but5 sp5 => ?_
      obtain ⟨kk, rfl, hk⟩ : ∃ kk, y = .str kk ∧ kk ∈ keptW := by
        simp only [List.mem_cons, List.mem_nil_iff, or_false] at hy
        rcases hy with rfl | rfl
        · exact ⟨_, rfl, by decide +kernel⟩
        · exact ⟨_, rfl, by decide +kernel⟩
      have s4 := kept_short _ hk
      refine ⟨_, kk, rfl, rfl, ?_, k _ H5 (mem_takes hl hd hw hk) ((((but1.trans but2).trans but3).trans ((But.of e3).trans but4)).trans but5) sp5⟩
      ((try simp only [strLen_append]); refine Nat.le_trans (m := 1000) ?_ (by decide); have a1 : (Str.ofString "take ").length = 5 := rfl; have a2 : (Str.ofString " to ").length = 4 := rfl; have a3 : (Str.ofString " back ").length = 6 := rfl; have a4 : (Str.ofString " ").length = 1 := rfl; omega)
    all_goals ((try simp only [strLen_append]); refine Nat.le_trans (m := 1000) ?_ (by decide); have a1 : (Str.ofString "take ").length = 5 := rfl; have a2 : (Str.ofString " to ").length = 4 := rfl; have a3 : (Str.ofString " back ").length = 6 := rfl; have a4 : (Str.ofString " ").length = 1 := rfl; omega)
end
end PW
namespace PW
open PySem PySem.Spec PyProof.Rows L2 Evl
def spRowsL : Sp := fun vs H Q _ => ∃ p : Addr, vs = [.ref p] ∧ SpringAt H p ∧ ∀ r ss H', H r = none → But p H H' → H' r = some (.lst (ss.map V.str)) → SpringAt H' p → Rows ss → ss.length ≤ 4 → Q (.ref r) H'
abbrev sRowsL : Stmt := top 76
theorem scRowsL : FnScope ["_law_spring_here", "_law_many", "_law_found", "_law_k", "_law_some"] ["_law_spring_here"] (defScope sRowsL) := ⟨rfl, rfl, rfl, by decide +kernel, rfl, by decide +kernel, by decide +kernel⟩
theorem mem_heads {m : Int} {a : Str} (h1 : m ∈ ([2, 3, 4] : List Int)) (h2 : a ∈ (["0", "1"] : List Str)) : mkHeadS m a ∈ headsW := by
  refine List.mem_append_left _ (List.mem_flatMap.mpr ⟨m, h1, ?_⟩)
  simp only [List.mem_cons, List.mem_nil_iff, or_false] at h2 ⊢
  rcases h2 with rfl | rfl
  · exact .inl rfl
  · exact .inr rfl
theorem take_day {x : Str} (h : x ∈ takesW) : x ∈ daysW := List.mem_append_left _ (List.mem_append_left _ h)
theorem Rows.snoc {ss : List Str} {x : Str} (r : Rows ss) (h : x ∈ daysW) (n : ss.length < 7) : Rows (ss ++ [x]) := by
  have t := r.two
  refine ⟨by simp; omega, by simp; omega, ?_, fun i h1 h2 => ?_⟩
  · have e : (ss ++ [x]).getD 0 "" = ss.getD 0 "" := by
      rw [List.getD_eq_getElem?_getD, List.getD_eq_getElem?_getD, List.getElem?_append_left (show 0 < ss.length by omega)]
    rw [e]
    exact r.head
  · by_cases z : i < ss.length
    · have e : (ss ++ [x]).getD i "" = ss.getD i "" := by
        rw [List.getD_eq_getElem?_getD, List.getD_eq_getElem?_getD, List.getElem?_append_left z]
      rw [e]
      exact r.days i h1 z
    · have e : (ss ++ [x]).getD i "" = x := by
        have : i = ss.length := by
          simp at h2
          omega
        subst this
        simp
      rw [e]
      exact h
section
variable {P : Program} {w : World} {K : PySem.W.Frag} {mg : Str → Option Value} {base : Heap} {fD fO : Addr} {dD dO : FuncData}
theorem ok_rowsL {f fT : Addr} {fd dT : FuncData} {j : Nat} (F : Fun K "_law_rows" "_law_rows" sRowsL f fd) (B : Blt mg) (W : Drw K mg fD fO dD dO)
    (T : Fun K "_law_take" "_law_take" sTakeL fT dT) (bT : Binds K dT ["_law_spring_here", "_law_many"] []) (mT : mg "_law_take" = some (.ref fT)) :
    FnOk P w K mg base CX0 (j + 4) f fd ["_law_spring_here"] spRowsL := by
  have GD : FnOk P w K mg base CX0 (j + 3) fD dD ["_law_spring_here", "_law_size"] spDraw := ok_draw W.D B
  have GO : FnOk P w K mg base CX0 (j + 3) fO dO ["_law_spring_here", "_law_menu"] (spOf K) := ok_of W.O B W.D W.bD W.mD
  have GT : FnOk P w K mg base CX0 (j + 3) fT dT ["_law_spring_here", "_law_many"] spTakeL := ok_takeL T B W
  refine F.ok scRowsL (fun vs H Q E h => ?_) (fun cdv A outer s H vs Q E hr h => ?_)
  · obtain ⟨p, rfl, _⟩ := h
    rfl
  · obtain ⟨p, rfl, sp, k⟩ := h
    refine ⟨_, (pss_cons (ps_set (i := 1) scRowsL.nd rfl (.inl rfl) (pe_call GO hr (by rfl) W.mO W.O.kp W.bO .nil pass0 (pa_cons (pv 0) (pa_cons (pe_lst (pa_cons pe_int (pa_cons pe_int (pa_cons pe_int (pa_cons pe_int (pa_cons pe_int pa_nil)))))) pa_nil))))
      (pss_cons (ps_set (i := 2) scRowsL.nd rfl (.inl rfl) (pe_lst (pa_cons (pe_op op_add_str (pe_op op_add_str (pe_op op_add_str pe_str (pe_callTy call_str_int (by rfl) B.str bStr (pa_cons (pv 1) pa_nil))) pe_str) (pe_call GO hr (by rfl) W.mO W.O.kp W.bO .nil pass0 (pa_cons (pv 0) (pa_cons (pe_lst (pa_cons pe_str (pa_cons pe_str (pa_cons pe_str (pa_cons pe_str pa_nil))))) pa_nil)))) (pa_cons (pe_call GT hr (by rfl) mT T.kp bT .nil pass0 (pa_cons (pv 0) (pa_cons (pv 1) pa_nil))) pa_nil))))
      (pss_cons (ps_for PassesOwn.never rfl (pi_range1 rfl B.range (pa_cons (pe_call GD hr (by rfl) W.mD W.D.kp W.bD .nil pass0 (pa_cons (pv 0) (pa_cons pe_int pa_nil))) pa_nil)) (pg_name (i := 3) scRowsL.nd rfl (Or.inl rfl)) (pss_cons (ps_set (i := 4) scRowsL.nd rfl (.inl rfl) (pe_lst (pa_cons (pe_call GT hr (by rfl) mT T.kp bT .nil pass0 (pa_cons (pv 0) (pa_cons (pv 1) pa_nil))) (pa_cons (pe_call GT hr (by rfl) mT T.kp bT .nil pass0 (pa_cons (pv 0) (pa_cons (pv 1) pa_nil))) (pa_cons pe_str (pa_cons pe_str pa_nil))))))
      (pss_one (ps_expr (pe_bm PySem.F.plainAttrs_list PySem.F.slot_list_append PySem.F.type_list_append mt_append (pv 2) (pa_cons (pe_call GO hr (by rfl) W.mO W.O.kp W.bO .nil pass0 (pa_cons (pv 0) (pa_cons (pe_op op_cat (pv 4) (pe_lst (pa_cons (pe_op op_add_str pe_str (pe_callTy call_str_int (by rfl) B.str bStr (pa_cons (pe_op op_add pe_int (pe_call GD hr (by rfl) W.mD W.D.kp W.bD .nil pass0 (pa_cons (pv 0) (pa_cons pe_int pa_nil)))) pa_nil))) pa_nil))) pa_nil))) pa_nil))))))
      (pss_one (ps_ret (pv 2)))))), ?_⟩
    refine of_ev (vs := [.int 2, .int 3, .int 3, .int 3, .int 4]) (el_lst (ea_cons ev_c (ea_cons ev_c (ea_cons ev_c (ea_cons ev_c (ea_cons ev_c ea_nil))))) (Nat.le_of_ble_eq_true rfl)) rfl sp (by decide) (by decide) fun x H1 hx but1 sp1 => ?_
    obtain ⟨m, rfl, hm⟩ : ∃ m, x = .int m ∧ m ∈ ([2, 3, 4] : List Int) := by
      simp only [List.mem_cons, List.mem_nil_iff, or_false] at hx
      rcases hx with rfl | rfl | rfl | rfl | rfl <;> exact ⟨_, rfl, by decide⟩
    have m24 : 2 ≤ m ∧ m ≤ 4 := by
      simp only [List.mem_cons, List.mem_nil_iff, or_false] at hm
      omega
    have sm := small_num (n := m) (by omega) (by omega)
    have c1 : (Str.ofString "plates ").length = 7 := rfl
    have c2 : (Str.ofString " away ").length = 6 := rfl
    refine ⟨.int m, rfl, m, rfl, sm.1, "plates ", txt m, rfl, rfl, ?_, _, " away ", rfl, rfl, ?_, ?_⟩
    · exact Nat.le_trans (show _ ≤ 1000 by omega) (by decide)
    · rw [strLen_append]
      exact Nat.le_trans (show _ ≤ 1000 by omega) (by decide)
    refine of_ev (vs := [.str "0", .str "0", .str "0", .str "1"]) (el_lst (ea_cons ev_c (ea_cons ev_c (ea_cons ev_c (ea_cons ev_c ea_nil)))) (Nat.le_of_ble_eq_true rfl)) rfl sp1 (by decide) (by decide) fun x H2 hx but2 sp2 => ?_
    obtain ⟨a, rfl, ha⟩ : ∃ a, x = .str a ∧ a ∈ (["0", "1"] : List Str) := by
      simp only [List.mem_cons, List.mem_nil_iff, or_false] at hx
      rcases hx with rfl | rfl | rfl | rfl <;> exact ⟨_, rfl, by decide +kernel⟩
    have la : a.length ≤ 10 := (show ∀ a ∈ (["0", "1"] : List Str), a.length ≤ 10 by decide +kernel) a ha
    refine ⟨_, a, rfl, rfl, ?_, ?_⟩
    · rw [strLen_append, strLen_append]
      exact Nat.le_trans (show _ ≤ 1000 by omega) (by decide)
    refine ⟨.ref p, rfl, .int m, rfl, p, m, rfl, sp2, fun t H3 ht but3 sp3 => ?_⟩
    refine ⟨by show 2 ≤ sizeLine; decide, fun r nr => ?_⟩
    have b03 := (but1.trans but2).trans but3
    have er := Ex.new (o := .lst [V.str (mkHeadS m a), .str t]) nr
    have r0 : H r = none := by
      cases z : H r with
      | none => rfl
      | some u =>
        have rp : r ≠ p := fun y => sp3.some (y ▸ nr)
        rw [b03 _ _ rp z] at nr
        cases nr
    have rp : r ≠ p := fun y => sp3.some (y ▸ nr)
    have rows0 : Rows [mkHeadS m a, t] := ⟨by simp, by simp, mem_heads hm ha, fun i h1 h2 => by
      have : i = 1 := by
        simp at h2
        omega
      subst this
      exact take_day ht⟩
    refine draw_ev (n := 3) rfl (sp3.ext er) (by decide) (by decide) fun d H4 d0 d1 but4 sp4 => ⟨d, rfl, by omega, by omega, for_range (lo := 0) (n := d.toNat)
      (fun i σ' H' => ∃ (y3 y4 : Option V) (ss : List Str), σ' = [some (.ref p), some (.int m), some (.ref r), y3, y4] ∧ But p H H' ∧ H' r = some (.lst (ss.map V.str)) ∧ SpringAt H' p ∧ Rows ss ∧ ss.length ≤ 2 + i)
      ⟨none, none, [mkHeadS m a, t], rfl, b03.trans ((But.of er).trans but4), but4 _ _ rp upd_same, sp4, rows0, by simp⟩ ?_ ?_⟩
    · rintro i σ' H5 hi ⟨y3, y4, ss, rfl, but5, hr5, sp5, rows5, len5⟩
      refine ⟨.ref p, rfl, .int m, rfl, p, m, rfl, sp5, fun t1 H6 h6 b6 sp6 => ⟨.ref p, rfl, .int m, rfl, p, m, rfl, sp6, fun t2 H7 h7 b7 sp7 => ⟨by show 4 ≤ sizeLine; decide, fun l4 n4 => ?_⟩⟩⟩
      have e4 := Ex.new (o := .lst [V.str t1, .str t2, .str "turn", .str "rest"]) n4
      have sp7' := sp7.ext e4
      obtain ⟨H7', eH7⟩ : ∃ H7', H7' = upd H7 l4 (.lst [V.str t1, .str t2, .str "turn", .str "rest"]) := ⟨_, rfl⟩
      have hl4 : H7' l4 = some (.lst [V.str t1, .str t2, .str "turn", .str "rest"]) := by rw [eH7]; exact upd_same
      rw [← eH7] at e4 sp7' ⊢
      have l4p : l4 ≠ p := fun z => sp7.some (z ▸ n4)
      have hr7 : H7' r = some (.lst (ss.map V.str)) := e4 _ _ (b7 _ _ rp (b6 _ _ rp hr5))
      refine ⟨.ref r, rfl, Or.inl ⟨rfl, _, sq_of hr7⟩, ?_⟩
      refine ⟨.ref p, rfl, .ref l4, rfl, ?_⟩
      refine draw_ev (n := 3) rfl sp7' (by decide) (by decide) fun u H8 u0 u1 b8 sp8 => ⟨1, u, rfl, rfl, 1 + u, rfl, (small_num (by omega) (by omega)).1, "cut ", txt (1 + u), rfl, rfl, ?_, ?_, fun l1 n1 => ?_⟩
      · have := (small_num (n := 1 + u) (by omega) (by omega)).2
        have c : (Str.ofString "cut ").length = 4 := rfl
        exact Nat.le_trans (show _ ≤ 1000 by omega) (by decide)
      · show 1 ≤ sizeLine
        decide
      have e1 := Ex.new (o := .lst [V.str ("cut " ++ txt (1 + u))]) n1
      have hl8 := e1 _ _ (b8 _ _ l4p hl4)
      refine ⟨l4, l1, _, _, rfl, rfl, hl8, upd_same, by show 5 ≤ sizeLine; decide, fun l nl => ?_⟩
      have el := e1.trans (Ex.new (o := .lst ([V.str t1, .str t2, .str "turn", .str "rest"] ++ [V.str ("cut " ++ txt (1 + u))])) nl)
      have hr8 : H8 r = some (.lst (ss.map V.str)) := b8 _ _ rp hr7
      have b8' : But p H7 H8 := (But.of e4).trans b8
      refine ⟨p, l, _, rfl, sq_of upd_same, fun z => (sp8.ext e1).some (z ▸ nl), by show 0 < 5; decide, by show 5 < 1000000; decide, sp8.ext el, fun x H9 hx b9 sp9 => ?_⟩
      obtain ⟨y, rfl, hy⟩ : ∃ y, x = .str y ∧ y ∈ daysW := by
        simp only [List.mem_append, List.mem_cons, List.mem_nil_iff, or_false, or_assoc] at hx
        have u3 : u = 0 ∨ u = 1 ∨ u = 2 := by omega
        rcases hx with rfl | rfl | rfl | rfl | rfl
        · exact ⟨_, rfl, take_day h6⟩
        · exact ⟨_, rfl, take_day h7⟩
        · exact ⟨_, rfl, by decide +kernel⟩
        · exact ⟨_, rfl, by decide +kernel⟩
        · rcases u3 with rfl | rfl | rfl <;> exact ⟨_, rfl, by decide +kernel⟩
      have hr9 : H9 r = some (.lst (ss.map V.str)) := b9 _ _ rp (el _ _ hr8)
      have b59 : But p H5 H9 := ((b6.trans b7).trans b8').trans ((But.of el).trans b9)
      refine ⟨r, ss.map V.str, .str y, rfl, rfl, hr9, ?_, _, _, ss ++ [y], rfl, fun b o hb e => ?_, ?_, ?_, rows5.snoc hy (by omega), by simp; omega⟩
      · rw [List.length_map]
        exact sz_lt (by omega)
      · rw [upd_ne (ne_of_none e r0)]
        exact b59 _ _ hb (but5 _ _ hb e)
      · rw [upd_same, List.map_append]
        rfl
      · obtain ⟨a1, a2, a3, a4⟩ := sp9
        exact ⟨a1, a2, a3, by rw [upd_ne rp.symm]; exact a4⟩
    · rintro σ' H5 ⟨y3, y4, ss, rfl, but5, hr5, sp5, rows5, len5⟩
      exact ⟨.ref r, rfl, k r ss H5 r0 but5 hr5 sp5 rows5 (by omega)⟩
end
end PW
namespace PW
open PySem PySem.Spec PyProof.Rows L2 Evl
/-! ### the law's helpers -/
abbrev sIsWhole : Stmt := top 74
theorem scIsWhole : FnScope ["_law_thing", "_law_least", "_law_most_now"] ["_law_thing", "_law_least", "_law_most_now"] (defScope sIsWhole) := ⟨rfl, rfl, rfl, by decide +kernel, rfl, by decide +kernel, by decide +kernel⟩
abbrev sAreC : Stmt := top 84
theorem scAreC : FnScope ["_law_rows_now", "_law_thing", "_law_state", "_law_lot"] ["_law_rows_now", "_law_thing"] (defScope sAreC) := ⟨rfl, rfl, rfl, by decide +kernel, rfl, by decide +kernel, by decide +kernel⟩
abbrev sLate : Stmt := top 86
theorem scLate : FnScope ["_law_spring_here", "_law_heads", "_law_rows_now"] ["_law_spring_here", "_law_heads"] (defScope sLate) := ⟨rfl, rfl, rfl, by decide +kernel, rfl, by decide +kernel, by decide +kernel⟩
abbrev sBentL : Stmt := top 87
theorem scBentL : FnScope ["_law_spring_here", "_law_lots", "_law_at", "_law_way", "_law_fresh"] ["_law_spring_here", "_law_lots"] (defScope sBentL) := ⟨rfl, rfl, rfl, by decide +kernel, rfl, by decide +kernel, by decide +kernel⟩
abbrev sNoTab : Stmt := top 88
theorem scNoTab : FnScope ["_law_spring_here"] ["_law_spring_here"] (defScope sNoTab) := ⟨rfl, rfl, rfl, by decide +kernel, rfl, by decide +kernel, by decide +kernel⟩
abbrev sQuiet : Stmt := top 90
theorem scQuiet : FnScope ["_law_rows_now", "_law_spot", "_law_lots", "_law_count", "_law_used_now", "_law_taken"] ["_law_rows_now", "_law_spot", "_law_lots"] (defScope sQuiet) := ⟨rfl, rfl, rfl, by decide +kernel, rfl, by decide +kernel, by decide +kernel⟩
abbrev sDueR : Stmt := top 89
theorem scDueR : FnScope ["_law_rows_now", "_law_spot", "_law_lots", "_law_bound", "_law_used_now", "_law_taken"] ["_law_rows_now", "_law_spot", "_law_lots", "_law_bound"] (defScope sDueR) := ⟨rfl, rfl, rfl, by decide +kernel, rfl, by decide +kernel, by decide +kernel⟩

theorem bList9 : bootBuiltins "list" = some (.type "list") := by decide +kernel
theorem dats_bools {H : Hp} : ∀ {ys : List V} {bs : List Bool}, Dats H ys (bs.map PyData.bool) → ys = bs.map V.bl
  | _, [], h => by cases h; rfl
  | _, b :: r, h => by
    cases h with
    | cons h1 h2 =>
      cases h1
      rw [dats_bools h2]
      rfl
mutual
def noL : PyData → Bool
  | .list _ => false
  | .dict _ => false
  | .tuple xs => noLAll xs
  | _ => true
def noLAll : List PyData → Bool
  | [] => true
  | x :: xs => noL x && noLAll xs
end
mutual
theorem Dat.keepT {H H' : Hp} (k : ∀ q xs, Rd H q (.tup xs) → Rd H' q (.tup xs)) : ∀ {v : V} {d : PyData}, Dat H v d → noL d = true → Dat H' v d
  | _, _, .non, _ => .non
  | _, _, .bl b, _ => .bl b
  | _, _, .int i, _ => .int i
  | _, _, .str x, _ => .str x
  | _, _, .lst h r, z => by simp [noL] at z
  | _, _, .tup h r, z => .tup (k _ _ h) (Dats.keepT k r (by simpa [noL] using z))
  | _, _, .dic h r, z => by simp [noL] at z
theorem Dats.keepT {H H' : Hp} (k : ∀ q xs, Rd H q (.tup xs) → Rd H' q (.tup xs)) : ∀ {vs : List V} {ds : List PyData}, Dats H vs ds → noLAll ds = true → Dats H' vs ds
  | _, _, .nil, _ => .nil
  | _, _, .cons h r, z => .cons (Dat.keepT k h (by simp [noLAll] at z; exact z.1)) (Dats.keepT k r (by simp [noLAll] at z; exact z.2))
end
theorem noL_ints : ∀ xs : List Int, noLAll (xs.map PyData.int) = true
  | [] => by simp [noLAll]
  | x :: r => by simp [noLAll, noL, noL_ints r]
theorem noL_heaps : ∀ xs : List (List Int), noLAll (xs.map intsD) = true
  | [] => by simp [noLAll]
  | x :: r => by
    have := noL_heaps r
    simp [noLAll, noL, intsD, noL_ints x]
    simpa [intsD] using this
theorem noLAll_map {α : Type} (f : α → PyData) : ∀ xs : List α, (∀ x ∈ xs, noL (f x) = true) → noLAll (xs.map f) = true
  | [], _ => by simp [noLAll]
  | x :: r, h => by
    simp only [List.map_cons, noLAll, Bool.and_eq_true]
    exact ⟨h x List.mem_cons_self, noLAll_map f r fun y hy => h y (List.mem_cons_of_mem _ hy)⟩
theorem noL_intsD (ns : List Int) : noL (intsD ns) = true := by
  unfold intsD
  simp only [noL]
  exact noL_ints ns
theorem take_one {α : Type} {l : List α} {i : Nat} (h : i < l.length) : l.take (i + 1) = l.take i ++ [l[i]] := by
  rw [List.take_succ, List.getElem?_eq_getElem h]
  rfl
section
variable {K : PySem.W.Frag} {σ : L2.St} {H : Hp} {tl te : TE} {tt : TT} {g : TG} {vs : List Nat} {a : Addr} {xs : List V} {α : Type}
theorem lc_core {src : List α} {da db : α → PyData} {F : α → Bool} {H1 : Hp} {Dl : Addr} (hD : H1 Dl = none) (e1 : Ex H H1) (nb : ∀ s ∈ src, noL (db s) = true) (hd : Dats H xs (src.map da)) (hz : xs.length ≤ 40000)
    (step : ∀ (s : α) (x : V) H1, s ∈ src → Ex H H1 → Dat H1 x (da s) → ∃ σ2, (∀ R : L2.St → Hp → Prop, R σ2 H1 → g x (wipe σ vs) H1 R) ∧ wipe σ2 vs = wipe σ vs ∧ EvT tt σ2 H1 (F s) ∧ (F s = true → EvR te σ2 H1 (fun H' v => Dat H' v (db s)))) :
    ∀ (i : Nat) (x : V) (H' : Hp), xs[i]? = some x → (Ex H1 H' ∧ ∃ acc, H' Dl = some (.lst acc) ∧ acc.length ≤ i ∧ Dats H' acc (((src.take i).filter F).map db)) → g x (wipe σ vs) H' fun σ2 H2 => wipe σ2 vs = wipe σ vs ∧ tt σ2 H2 fun b H3 =>
      if b = true then te σ2 H3 fun y H4 => ∃ acc, H4 Dl = some (.lst acc) ∧ acc.length < sizeLine ∧ (Ex H1 (upd H4 Dl (.lst (acc ++ [y]))) ∧ ∃ acc', (upd H4 Dl (.lst (acc ++ [y]))) Dl = some (.lst acc') ∧ acc'.length ≤ i + 1 ∧ Dats (upd H4 Dl (.lst (acc ++ [y]))) acc' (((src.take (i + 1)).filter F).map db)) else (Ex H1 H3 ∧ ∃ acc, H3 Dl = some (.lst acc) ∧ acc.length ≤ i + 1 ∧ Dats H3 acc (((src.take (i + 1)).filter F).map db)) := by
  intro i x H' hi p
  obtain ⟨p2, acc, p3, al, p4⟩ := p
  have hix : i < xs.length := (List.getElem?_eq_some_iff.mp hi).1
  have sl := hd.len
  rw [List.length_map] at sl
  have his : i < src.length := by omega
  obtain ⟨x', hx', dx⟩ := dats_get (i := i) (d := da src[i]) hd (by rw [List.getElem?_map, List.getElem?_eq_getElem his]; rfl)
  obtain rfl : x' = x := Option.some.inj (hx'.symm.trans hi)
  obtain ⟨σ2, hg, hw, ht, he⟩ := step src[i] x' H' (List.getElem_mem his) (e1.trans p2) (Dat.mono (e1.trans p2) dx)
  refine hg _ ⟨hw, ht H' (Ex.refl H') _ fun H3 e3 => ?_⟩
  have tk := take_one his
  cases hF : F src[i] with
  | true =>
    show te σ2 H3 _
    refine he hF H3 e3 _ fun y H4 e4 hy => ⟨acc, (e3.trans e4) _ _ p3, sz_lt (by omega), Ex.mut ((p2.trans e3).trans e4) hD, acc ++ [y], upd_same, by rw [List.length_append]; show acc.length + 1 ≤ i + 1; omega, ?_⟩
    have k : ∀ q zs, Rd H4 q (.tup zs) → Rd (upd H4 Dl (.lst (acc ++ [y]))) q (.tup zs) := keepT_lst ((e3.trans e4) _ _ p3)
    rw [tk, List.filter_append, List.map_append, show [src[i]].filter F = [src[i]] by simp [hF]]
    refine dats_app (Dats.keepT k (Dats.mono (e3.trans e4) p4) (noLAll_map db _ fun s hs => nb s (List.mem_of_mem_take (List.mem_filter.mp hs).1))) (.cons (Dat.keepT k hy (nb _ (List.getElem_mem his))) .nil)
  | false =>
    show (if false = true then _ else _)
    rw [if_neg (by decide)]
    refine ⟨p2.trans e3, acc, e3 _ _ p3, by omega, ?_⟩
    rw [tk, List.filter_append, show [src[i]].filter F = [] by simp [hF], List.append_nil]
    exact Dats.mono e3 p4
theorem er_lcD (src : List α) (da db : α → PyData) (F : α → Bool) (nb : ∀ s ∈ src, noL (db s) = true) (h : Ev tl σ H (.ref a)) (hx : SqT K H a xs) (hd : Dats H xs (src.map da)) (hz : xs.length ≤ 40000)
    (step : ∀ (s : α) (x : V) H1, s ∈ src → Ex H H1 → Dat H1 x (da s) → ∃ σ2, (∀ R : L2.St → Hp → Prop, R σ2 H1 → g x (wipe σ vs) H1 R) ∧ wipe σ2 vs = wipe σ vs ∧ EvT tt σ2 H1 (F s) ∧ (F s = true → EvR te σ2 H1 (fun H' v => Dat H' v (db s)))) :
    EvR (tLc (iTup K tl) g tt te vs) σ H (fun H' v => ∃ l ys, v = .ref l ∧ H l = none ∧ H' l = some (.lst ys) ∧ Dats H' ys ((src.filter F).map db)) := fun H0 e Q q => h H0 e _ fun H1 e1 => ⟨a, rfl, ⟨xs, ex_t (e.trans e1) hx⟩, fun Dl hD => by
  have sl := hd.len
  rw [List.length_map] at sl
  exact lc_tup (xs := xs) (fun i H' => Ex H1 H' ∧ ∃ acc, H' Dl = some (.lst acc) ∧ acc.length ≤ i ∧ Dats H' acc (((src.take i).filter F).map db)) ⟨Ex.new hD, [], upd_same, Nat.le_refl _, .nil⟩ (fun i H' _ p => ex_t ((e.trans e1).trans p.1) hx)
    (lc_core hD (e.trans e1) nb hd hz step)
    (fun H' p => by
      obtain ⟨p2, acc, p3, _, p4⟩ := p
      rw [sl, List.take_length] at p4
      exact q (.ref Dl) H' (e1.trans p2) ⟨Dl, acc, rfl, fresh_back (e.trans e1) hD, p3, p4⟩)⟩
theorem er_lcDL (src : List α) (da db : α → PyData) (F : α → Bool) (nb : ∀ s ∈ src, noL (db s) = true) (h : Ev tl σ H (.ref a)) (hx : SqL K H a xs) (hd : Dats H xs (src.map da)) (hz : xs.length ≤ 40000)
    (step : ∀ (s : α) (x : V) H1, s ∈ src → Ex H H1 → Dat H1 x (da s) → ∃ σ2, (∀ R : L2.St → Hp → Prop, R σ2 H1 → g x (wipe σ vs) H1 R) ∧ wipe σ2 vs = wipe σ vs ∧ EvT tt σ2 H1 (F s) ∧ (F s = true → EvR te σ2 H1 (fun H' v => Dat H' v (db s)))) :
    EvR (tLc (iList K tl) g tt te vs) σ H (fun H' v => ∃ l ys, v = .ref l ∧ H l = none ∧ H' l = some (.lst ys) ∧ Dats H' ys ((src.filter F).map db)) := fun H0 e Q q => h H0 e _ fun H1 e1 => ⟨a, rfl, ⟨xs, ex_l (e.trans e1) hx⟩, fun Dl hD => by
  have sl := hd.len
  rw [List.length_map] at sl
  exact lc_list (xs := xs) (fun i H' => Ex H1 H' ∧ ∃ acc, H' Dl = some (.lst acc) ∧ acc.length ≤ i ∧ Dats H' acc (((src.take i).filter F).map db)) ⟨Ex.new hD, [], upd_same, Nat.le_refl _, .nil⟩ (fun i H' _ p => ex_l ((e.trans e1).trans p.1) hx)
    (lc_core hD (e.trans e1) nb hd hz step)
    (fun H' p => by
      obtain ⟨p2, acc, p3, _, p4⟩ := p
      rw [sl, List.take_length] at p4
      exact q (.ref Dl) H' (e1.trans p2) ⟨Dl, acc, rfl, fresh_back (e.trans e1) hD, p3, p4⟩)⟩
end
section
variable {K : PySem.W.Frag} {σ : L2.St} {H : Hp} {tl te : TE} {tt : TT} {g : TG} {vs : List Nat} {α : Type}
/-- a comprehension over a list that an expression makes -/
theorem er_lcDX (src : List α) (da db : α → PyData) (F : α → Bool) (nb : ∀ s ∈ src, noL (db s) = true) (h : ∀ H1, Ex H H1 → ∀ Q : VK, (∀ a xs H2, Ex H1 H2 → SqL K H2 a xs → Dats H2 xs (src.map da) → xs.length ≤ 40000 → Q (.ref a) H2) → tl σ H1 Q)
    (step : ∀ (s : α) (x : V) H1, s ∈ src → Ex H H1 → Dat H1 x (da s) → ∃ σ2, (∀ R : L2.St → Hp → Prop, R σ2 H1 → g x (wipe σ vs) H1 R) ∧ wipe σ2 vs = wipe σ vs ∧ EvT tt σ2 H1 (F s) ∧ (F s = true → EvR te σ2 H1 (fun H' v => Dat H' v (db s)))) :
    EvR (tLc (iList K tl) g tt te vs) σ H (fun H' v => ∃ l ys, v = .ref l ∧ H l = none ∧ H' l = some (.lst ys) ∧ Dats H' ys ((src.filter F).map db)) := fun H0 e Q q => h H0 e _ fun a xs H1 e1 hx hd hz => ⟨a, rfl, ⟨xs, hx⟩, fun Dl hD => by
  have sl := hd.len
  rw [List.length_map] at sl
  exact lc_list (xs := xs) (fun i H' => Ex H1 H' ∧ ∃ acc, H' Dl = some (.lst acc) ∧ acc.length ≤ i ∧ Dats H' acc (((src.take i).filter F).map db)) ⟨Ex.new hD, [], upd_same, Nat.le_refl _, .nil⟩ (fun i H' _ p => ex_l p.1 hx)
    (lc_core (H := H1) hD (Ex.refl H1) nb hd hz fun s x H2 ms e2 dx => step s x H2 ms ((e.trans e1).trans e2) dx)
    (fun H' p => by
      obtain ⟨p2, acc, p3, _, p4⟩ := p
      rw [sl, List.take_length] at p4
      exact q (.ref Dl) H' (e1.trans p2) ⟨Dl, acc, rfl, fresh_back (e.trans e1) hD, p3, p4⟩)⟩
end
theorem q_retT {f : List V → Hp → VK → Prop} {te : TE} {σ : L2.St} {H : Hp} {D : Ends} {R : Hp → V → Prop} (h : EvR te σ H R) (k : ∀ v H1, Ex H H1 → R H1 v → f [v] H1 D.rt) : tRet (tCB f (tCons te tNil)) D σ H := h H (Ex.refl H) _ fun v H1 e r => k v H1 e r

section
variable {K : PySem.W.Frag} {σ : L2.St} {p : Addr} {H : Hp} {S : PyData → Prop} {te : TE} {t : TA} {n : Nat} {E : XK}
/-- what is drawn, as data of a kind; the spring alone changes -/
def EvD (te : TE) (σ : L2.St) (p : Addr) (H : Hp) (S : PyData → Prop) : Prop := ∀ H1, But p H H1 → SpringAt H1 p → ∀ Q : VK, (∀ v d H2, But p H1 H2 → SpringAt H2 p → D1 p d H2 v → S d → Q v H2) → te σ H1 Q
def EvDs (ta : TA) (σ : L2.St) (p : Addr) (H : Hp) (S : PyData → Prop) (n : Nat) : Prop := ∀ H1, But p H H1 → SpringAt H1 p → ∀ Q : List V → Hp → Prop, (∀ vs ds H2, But p H1 H2 → SpringAt H2 p → Ds p ds H2 vs → (∀ d ∈ ds, S d) → ds.length = n → Q vs H2) → ta σ H1 Q
theorem eds_nil : EvDs tNil σ p H S 0 := fun H1 b s Q q => q [] [] H1 (But.refl H1) s .nil (fun d h => nomatch h) rfl
theorem eds_cons (h : EvD te σ p H S) (hr : EvDs t σ p H S n) : EvDs (tCons te t) σ p H S (n + 1) := fun H1 b1 s1 Q q =>
  h H1 b1 s1 _ fun v d H2 b2 s2 hd sd => hr H2 (b1.trans b2) s2 _ fun vs ds H3 b3 s3 hds sds n3 => q (v :: vs) (d :: ds) H3 (b2.trans b3) s3 (.cons (Dat.mono b3.hide hd) hds) (List.forall_mem_cons.mpr ⟨sd, sds⟩) (by rw [List.length_cons, n3])
theorem ed_of {d : PyData} (h : ∀ H1, But p H H1 → SpringAt H1 p → EvR te σ H1 (D1 p d)) (sd : S d) : EvD te σ p H S := fun H1 b s Q q =>
  h H1 b s H1 (Ex.refl H1) _ fun v H2 e2 hd => q v d H2 (But.of e2) (s.ext e2) hd sd
theorem ed_pick (hp : σ[0]? = some (some (.ref p))) (h : EvDs t σ p H S n) (n0 : 0 < n) (n1 : n < 1000) : EvD (tCall (spOf K) [] E (tCons (tVar 0) (tCons (tLst t) tNil))) σ p H S := fun H1 b1 s1 Q q =>
  ⟨.ref p, hp, h H1 b1 s1 _ fun vs ds H2 b2 s2 hds sds hn => by
    have len : vs.length = ds.length := Dats.len hds
    refine ⟨sz_of (by omega), fun l nl => ?_⟩
    have el := Ex.new (o := .lst vs) nl
    refine ⟨p, l, vs, rfl, sq_of upd_same, fun z => s2.some (z ▸ nl), by omega, by omega, s2.ext el, fun x H3 hx b3 s3 => ?_⟩
    obtain ⟨d, hd, dx⟩ := dats_mem hds hx
    exact q x d H3 ((b2.trans (But.of el)).trans b3) s3 (Dat.mono (((But.of el).trans b3).hide) dx) (sds d hd)⟩
theorem rd_ne {H : Hp} {p q : Addr} {ys : List V} (s : SpringAt H p) (h : Rd H q (.tup ys)) : q ≠ p := by
  rintro rfl
  obtain ⟨x, y, z, hs⟩ := s
  rcases h with h | ⟨o, h⟩ <;> rw [hs] at h <;> cases h
theorem tupD1 {H : Hp} {p q : Addr} {ns : List Int} (s : SpringAt H p) (h : Rd H q (.tup (ns.map V.int))) : D1 p (intsD ns) H (.ref q) :=
  dat_ints (h.imp (fun z => by rw [hide_ne (rd_ne s h)]; exact z) fun ⟨o, z⟩ => ⟨o, by rw [hide_ne (rd_ne s h)]; exact z⟩)
theorem lstD1 {H : Hp} {p l : Addr} {ns : List Int} (ne : l ≠ p) (h : H l = some (.lst (ns.map V.int))) : D1 p (.list (ns.map PyData.int)) H (.ref l) := .lst (.inl ((hide_ne ne).trans h)) (dats_ints ns)
theorem el_listQ {K : PySem.W.Frag} {xs : List V} (h : EvQ te σ H xs) : EvL (tCB (fun vs H Q => ∃ p ys, vs = [.ref p] ∧ (SqL K H p ys ∨ SqT K H p ys) ∧ ∀ l, H l = none → Q (.ref l) (upd H l (.lst ys))) (tCons te tNil)) σ H xs := fun H1 e Q q =>
  h H1 e _ fun v H2 e2 ⟨p, ev, hp⟩ => ⟨p, xs, by rw [ev], .inr (.inl hp), fun l nl => q l _ (fresh_back e2 nl) (e2.trans (Ex.new nl)) upd_same⟩
theorem ed_q {ns : List Int} (h : ∀ H1, But p H H1 → SpringAt H1 p → EvQ te σ H1 (ns.map V.int)) (sd : S (intsD ns)) : EvD te σ p H S := fun H1 b s Q q =>
  h H1 b s H1 (Ex.refl H1) _ fun v H2 e2 ⟨t, ev, ht⟩ => q v (intsD ns) H2 (But.of e2) (s.ext e2) (by rw [ev]; exact tupD1 (s.ext e2) ht) sd
theorem ed_l {ns : List Int} (h : ∀ H1, But p H H1 → SpringAt H1 p → EvL te σ H1 (ns.map V.int)) (sd : S (.list (ns.map .int))) : EvD te σ p H S := fun H1 b s Q q =>
  h H1 b s H1 (Ex.refl H1) _ fun l H2 nl e2 hl => q _ _ H2 (But.of e2) (s.ext e2) (lstD1 (fun z => s.some (z ▸ nl)) hl) sd
end
theorem span_iff9 {rows : List Str} {ss : List PSt} {k : Int} : k ∈ spanI (letsNow ss (dayList rows)) ↔ isLet (letsNow ss (dayList rows)) (some k) = true := by
  refine ⟨mem_span, fun h => ?_⟩
  cases e : letsNow ss (dayList rows) with
  | none => rw [e] at h; cases h
  | some p =>
    obtain ⟨lo, hi⟩ := p
    rw [e] at h
    simp only [isLet, Bool.and_eq_true, decide_eq_true_eq] at h
    refine List.mem_map.mpr ⟨(k - lo).toNat, List.mem_range.mpr (by omega), by omega⟩
theorem let_small9 {rows : List Str} (r : RowsM rows) {ss : List PSt} {k : Int} (h : isLet (letsNow ss (dayList rows)) (some k) = true) : 0 ≤ k ∧ k ≤ 6 := by
  refine ⟨(let_pos r h).1, ?_⟩
  rw [lets_dAt] at h
  obtain ⟨_, _, _, m, _⟩ := r.bound ((ss.length - 1 : Nat) : Int)
  unfold letsOf at h
  split at h
  · cases h
  · have h2 := (Bool.and_eq_true_iff.mp h).2
    have h3 := of_decide_eq_true h2
    split at h3 <;> omega
theorem let_ten {rows : List Str} (r : RowsM rows) {ss : List PSt} (_inn : Inn rows ss) {k : Int} (h : isLet (letsNow ss (dayList rows)) (some k) = true) : 0 ≤ k ∧ k ≤ 9 := by
  have := let_small9 r h
  omega
theorem cut_init9 {xs : List V} : cutV xs none (some (-1)) = xs.dropLast := by
  unfold cutV
  have h : HT.sIx xs.length xs.length (some (-1)) = xs.length - 1 := by
    show (if (-1 : Int) < 0 then ((-1 : Int) + (xs.length : Int)).toNat else min (-1 : Int).toNat xs.length) = _
    rw [if_pos (by decide)]
    omega
  rw [HT.sIx_none, h, List.drop_zero, Nat.sub_zero, List.dropLast_eq_take]
theorem sub_heads : headsW.all (fun s => decide (s ∈ headsM)) = true := by decide +kernel
theorem wheres_sub : wheresW.all (fun s => decide (s ∈ wheresM)) = true := by decide +kernel
theorem cuts_sub : cutsW.all (fun s => decide (s ∈ cutsM)) = true := by decide +kernel
theorem days_sub {x : Str} (h : x ∈ daysW) : x ∈ daysM := by
  rcases List.mem_append.mp h with h | h
  · rcases List.mem_append.mp h with h | h
    · obtain ⟨l, hl, h⟩ := List.mem_flatMap.mp h
      obtain ⟨d, hd, h⟩ := List.mem_flatMap.mp h
      obtain ⟨wh, hw, h⟩ := List.mem_flatMap.mp h
      obtain ⟨k, hk, rfl⟩ := List.mem_map.mp h
      simp only [List.mem_cons, List.mem_nil_iff, or_false] at hl hd
      exact List.mem_append_right _ (mem_takesM (by omega) (by omega) (of_decide_eq_true (List.all_eq_true.mp wheres_sub wh hw)) hk)
    · rcases List.mem_append.mp h with h | h
      · exact List.mem_append_left _ (List.mem_append_left _ h)
      · exact List.mem_append_left _ (List.mem_append_right _ (of_decide_eq_true (List.all_eq_true.mp cuts_sub x h)))
  · cases h
theorem rows_day {ss : List Str} (r : Rows ss) {s : Str} (h : s ∈ ss.drop 1) : s ∈ daysW := by
  obtain ⟨i, hi, rfl⟩ := List.mem_iff_getElem.mp h
  rw [List.length_drop] at hi
  have e : (ss.drop 1)[i] = ss.getD (1 + i) "" := by
    rw [List.getElem_drop, List.getD_eq_getElem?_getD, List.getElem?_eq_getElem (by omega)]
    rfl
  rw [e]
  exact r.days (1 + i) (by omega) (by omega)
theorem Rows.toM9 {ss : List Str} (r : Rows ss) (l : ss.length ≤ 6) : RowsM ss := by
  refine ⟨r.two, l, ?_, fun s hs => ?_⟩
  · have h := List.all_eq_true.mp sub_heads _ r.head
    exact of_decide_eq_true h
  · exact days_sub (rows_day r hs)
theorem rv_notT9 {K : PySem.W.Frag} {H : Hp} {x : V} {p : Addr} {xs : List V} (h : SqT K H p xs) (hx : flatV x = true) (ha : xs.all flatV = true) : RV (rIn K true) x (.ref p) H (.bl (!inV x xs)) := rv_inT h hx ha
def Ten (d : PyData) : Prop := (itemsD d).length ≤ 10
def spAreC : Sp := fun vs H Q _ => ∃ (r : Addr) (v : V) (rows : List Str) (a b : Int) (d : PyData), vs = [.ref r, v] ∧ H r = some (.lst (rows.map V.str)) ∧ RowsM rows ∧ HeadW (rows.getD 0 "") a b ∧ Dat H v d ∧ (itemsD d).length ≤ 10 ∧
  ∀ H', Ex H H' → Q (.bl (choicesOut (dayList rows) a b d).isNone) H'
def spIH : Sp := fun vs H Q _ => ∃ v d lo hi, vs = [v, .int lo, .int hi] ∧ Dat H v d ∧ ∀ H', Ex H H' → Q (.bl (wholeD lo hi d)) H'
def spLate : Sp := fun vs H Q _ => ∃ (p hl : Addr) (hs : List Str), vs = [.ref p, .ref hl] ∧ SpringAt H p ∧ H hl = some (.lst (hs.map V.str)) ∧ (∀ h ∈ hs, h ∈ headsM) ∧ hl ≠ p ∧ 0 < hs.length ∧ hs.length ≤ 100 ∧
  ∀ r ss H', But p H H' → H' r = some (.lst (ss.map V.str)) → SpringAt H' p → RowsM ss → ss.length ≤ 4 → Q (.ref r) H'
def spBentL : Sp := fun vs H Q _ => ∃ (p t : Addr) (ks : List Int), vs = [.ref p, .ref t] ∧ SpringAt H p ∧ Rd H t (.tup (ks.map V.int)) ∧ ks.length ≤ 8 ∧ ∀ v d H', But p H H' → SpringAt H' p → D1 p d H' v → Ten d → Q v H'
def noTabD : List PyData := [.tuple [], .none, .list [], .int 0, .str "", .tuple [.tuple []], .tuple [.int 0]]
theorem noTab_all : (PyData.tuple [] ∈ noTabD ∧ PyData.none ∈ noTabD ∧ PyData.list [] ∈ noTabD ∧ PyData.int 0 ∈ noTabD ∧ PyData.str "" ∈ noTabD) ∧ PyData.tuple [.tuple []] ∈ noTabD ∧ PyData.tuple [.int 0] ∈ noTabD := by simp [noTabD]
def spNoTab : Sp := fun vs H Q _ => ∃ p : Addr, vs = [.ref p] ∧ SpringAt H p ∧ ∀ v d H', But p H H' → SpringAt H' p → D1 p d H' v → d ∈ noTabD → Q v H'
def spQuiet : Sp := fun vs H Q _ => ∃ (r t : Addr) (rows : List Str) (ks : List Int) (a b z : Int), vs = [.ref r, .int z, .ref t] ∧ H r = some (.lst (rows.map V.str)) ∧ RowsM rows ∧ HeadW (rows.getD 0 "") a b ∧ Rd H t (.tup (ks.map V.int)) ∧ LetR (dayList rows) [st0 a b] ks ∧ ks.length ≤ 60 ∧ ∀ m H', 0 ≤ m → m ≤ (ks.length : Int) → Ex H H' → Q (.int m) H'
/-- whether choices end with so many days of rest of a plate -/
def restEnd (us : List (List Int)) (p n : Int) : Bool := (us.drop (us.length - n.toNat)).all fun u => !inV (.int p) (u.map V.int)
def restedB (dd : List DayD) (a b : Int) (dp dc db : PyData) : Bool :=
  (choicesOut dd a b dc).isNone && (wholeD 0 (a - 1) dp && (wholeD 1 ((itemsD dc).length : Int) db && restEnd (takes dd [st0 a b] ((itemsD dc).map intD)) (intD dp) (intD db)))
def spDueR : Sp := fun vs H Q _ => ∃ (r : Addr) (vp vc vb : V) (rows : List Str) (a b : Int) (dp dc db : PyData), vs = [.ref r, vp, vc, vb] ∧ H r = some (.lst (rows.map V.str)) ∧ RowsM rows ∧ HeadW (rows.getD 0 "") a b ∧ Dat H vp dp ∧ Dat H vc dc ∧ Dat H vb db ∧ Ten dc ∧
  ∀ H', Ex H H' → Q (.bl (restedB (dayList rows) a b dp dc db)) H'
theorem choices_ints {dd : List DayD} {a b : Int} {d : PyData} (h : (choicesOut dd a b d).isNone = true) : ∃ ks : List Int, d = intsD ks ∧ LetR dd [st0 a b] ks ∧ (itemsD d).map intD = ks ∧ (itemsD d).length = ks.length := by
  have e : choicesOut dd a b d = none := by
    cases q : choicesOut dd a b d with
    | none => rfl
    | some x => rw [q] at h; cases h
  obtain ⟨ks, rfl, hl⟩ := choices_none e
  refine ⟨ks, rfl, hl, ?_, ?_⟩
  · unfold intsD itemsD
    rw [List.map_map]
    exact List.map_id ks
  · unfold intsD itemsD
    rw [List.length_map]
section
variable {P : Program} {w : World} {K : PySem.W.Frag} {mg : Str → Option Value} {base : Heap} {f fD fO fBG fNX fSP fIH fRL fPT fHE fAC : Addr} {fd dD dO dBG dNX dSP dIH dRL dPT dHE dAC : FuncData} {j : Nat}
theorem ok_ih (F : Fun K "_law_is_whole" "_law_is_whole" sIsWhole f fd) (B : Blt mg) : FnOk P w K mg base CX0 (j + 1) f fd ["_law_thing", "_law_least", "_law_most_now"] spIH := by
  refine F.ok scIsWhole (fun vs H Q E h => ?_) (fun cdv A outer s H vs Q E hr h => ?_)
  · obtain ⟨v, d, lo, hi, rfl, _⟩ := h
    rfl
  · obtain ⟨v, d, lo, hi, rfl, hd, k⟩ := h
    refine ⟨_, (pss_one (ps_ret (pe_and (pe_callB call_isi (by rfl) B.isi bIsi (pa_cons (pv 0) (pa_cons (pe_bltn (v := .ty "int") (by rfl) B.int bInt rfl) pa_nil))) (pe_and (pe_not (pe_callB call_isi (by rfl) B.isi bIsi (pa_cons (pv 0) (pa_cons (pe_bltn (v := .ty "bool") (by rfl) B.bool bBool rfl) pa_nil)))) (pe_one (pe_chain op_le op_le (pv 1) (pv 0) (pv 2))))))), ?_⟩
    refine s_ret (v := .bl (wholeD lo hi d)) (ev_is (ev_andV (a := isTy "int" d) (b := !isTy "bool" d && wholeD lo hi d) (ev_isD (ev_var rfl) ev_c hd known_int) (fun y => ev_andV (a := !isTy "bool" d) (b := wholeD lo hi d) (ev_notV (ev_isD (ev_var rfl) ev_c hd known_bool)) (fun z => ?_))) ?_) fun H1 e1 => k H1 e1
    · have q : isIntD d = true := by rw [← isInt_of, y, z]; rfl
      obtain ⟨n, rfl⟩ := isIntD_int q
      obtain rfl := int_dat hd
      exact ev_chain (ev_var rfl) (ev_var rfl) (ev_var rfl) rv_I0 (fun _ => rv_I0)
    · rw [← Bool.and_assoc, isInt_of]
      cases d <;> rfl
theorem ok_areC (BG : Cl8 P w K mg base "_law_begin" fBG dBG ["_law_rows_now"] 14 (spBegin K)) (NX : Cl8 P w K mg base "_law_next" fNX dNX ["_law_rows_now", "_law_state", "_law_lot"] 14 (spNext K)) (SP : Cl8 P w K mg base "_law_span" fSP dSP ["_law_rows_now", "_law_state"] 14 (spSpan K)) (IH : Cl8 P w K mg base "_law_is_whole" fIH dIH ["_law_thing", "_law_least", "_law_most_now"] 14 spIH)
    (F : Fun K "_law_are_choices" "_law_are_choices" sAreC f fd) (B : Blt mg) : FnOk P w K mg base CX0 15 f fd ["_law_rows_now", "_law_thing"] spAreC := by
  refine F.ok scAreC (fun vs H Q E h => ?_) (fun cdv A outer s H vs Q E hr h => ?_)
  · obtain ⟨r, v, rows, a, b, d, rfl, _⟩ := h
    rfl
  · obtain ⟨r, v, rows, a, b, d, rfl, hrw, hR, hw, hd, hz, k⟩ := h
    refine ⟨_, (pss_cons (ps_if (pt_not (pt_val (pe_callB call_isi (by rfl) B.isi bIsi (pa_cons (pv 1) (pa_cons (pe_bltn (v := .ty "tuple") (by rfl) B.tuple bTuple rfl) pa_nil))))) (pss_one (ps_ret pe_bl)) pss_nil)
      (pss_cons (ps_set (i := 2) scAreC.nd rfl (.inl rfl) (pe_call BG.G hr (by rfl) BG.m BG.k BG.b .nil pass0 (pa_cons (pv 0) pa_nil)))
      (pss_cons (ps_for PassesOwn.never rfl (pi_tup (pv 1)) (pg_name (i := 3) scAreC.nd rfl (Or.inl rfl)) (pss_cons (ps_if (L2.PW.pt (pw_or (pt_not (pt_val (pe_call IH.G hr (by rfl) IH.m IH.k IH.b .nil pass0 (pa_cons (pv 3) (pa_cons pe_int (pa_cons pe_int pa_nil)))))) (pw_or1 (pt_cmpR op_notIn_seq (pv 3) (pe_call SP.G hr (by rfl) SP.m SP.k SP.b .nil pass0 (pa_cons (pv 0) (pa_cons (pv 2) pa_nil))) rfl)))) (pss_one (ps_ret pe_bl)) pss_nil) (pss_one (ps_set (i := 2) scAreC.nd rfl (.inl rfl) (pe_ix ix_list (pe_call NX.G hr (by rfl) NX.m NX.k NX.b .nil pass0 (pa_cons (pv 0) (pa_cons (pv 2) (pa_cons (pv 3) pa_nil)))) pe_int (fun _ _ => rfl))))))
      (pss_one (ps_ret pe_bl))))), ?_⟩
    have tt := ev_isD (K := K) (σ := [some (.ref r), some v, none, none]) (H := H) (te := tVar 1) (tb := tC (.ty "tuple")) (ev_var rfl) ev_c hd known_tuple
    rw [isTup_of] at tt
    refine q_when (b := !isTupD d) (et_not (et_B tt)) (fun z H1 e1 => ?_) (fun z H1 e1 => ?_)
    · have z2 : isTupD d = false := by simpa using z
      have k2 : choicesOut (dayList rows) a b d = some (7, .none) := by
        unfold choicesOut
        rw [if_neg (by rw [z2]; exact Bool.false_ne_true)]
      rw [k2] at k
      exact s_ret ev_c fun H2 e2 => k H2 (e1.trans e2)
    have z2 : isTupD d = true := by simpa using z
    obtain ⟨its, rfl⟩ := isTupD_tup z2
    have k2 : choicesOut (dayList rows) a b (.tuple its) = badAt (dayList rows) [st0 a b] its 0 := by
      unfold choicesOut
      rw [if_pos z2]
      rfl
    rw [k2] at k
    have hz2 : its.length ≤ 10 := hz
    obtain ⟨t, xs, rfl, ht, hx⟩ := tup_datX hd
    have xl := Dats.len hx
    have two := hR.two
    refine q_asgE' ⟨.ref r, rfl, r, rows, a, b, rfl, sq_of (e1 _ _ hrw), by omega, hw, fun v0 H2 e2 hv0 => ?_⟩
    have e02 := e1.trans e2
    refine (?_ : tSeq _ _ _ _ _)
    refine ⟨.ref t, rfl, t, rfl, ⟨xs, .inl (ex_rd e02 ht)⟩, for_tup (K := K) (a := t) (xs := xs)
      (fun i σ H' => ∃ (sv : V) (ss : List PSt) (y : Option V), σ = [some (.ref r), some (.ref t), some sv, y] ∧ Ex H H' ∧ Dat H' sv (stL ((ss.length - 1 : Nat) : Int) (curSt ss).pile (curSt ss).heaps) ∧ Inn rows ss ∧ badAt (dayList rows) [st0 a b] its 0 = badAt (dayList rows) ss (its.drop i) i ∧ ss.length = i + 1)
      ⟨v0, [st0 a b], none, rfl, e02, hv0, Inn.zero hw.f, rfl, rfl⟩ (fun i σ H' _ ⟨_, _, _, _, ex, _⟩ => .inl (ex_rd ex ht)) ?_ (fun σ' H' ⟨sv, ss, y, _, ex, _, _, hb, _⟩ => ?_)⟩
    · rintro i x σ' H' hi ⟨sv, ss, y, rfl, ex, hsv, inn, hb, sl⟩
      have hlt : i < its.length := by have := (List.getElem?_eq_some_iff.mp hi).1; omega
      rw [List.drop_eq_getElem_cons hlt] at hb
      obtain ⟨di, hdi⟩ : ∃ di, di = its[i] := ⟨_, rfl⟩
      rw [← hdi] at hb
      obtain ⟨x', hxi, hxd⟩ := dats_get (i := i) (d := di) hx (by rw [List.getElem?_eq_getElem hlt, hdi])
      obtain rfl : x' = x := Option.some.inj (hxi.symm.trans hi)
      dsimp only [List.set_cons_zero, List.set_cons_succ]
      obtain ⟨g, hg⟩ : ∃ g : Bool, g = isLet (letsNow ss (dayList rows)) (intO di) := ⟨_, rfl⟩
      refine q_when (b := !g) (et_is (et_or (a := !wholeD 0 9 di) (b := !g) (et_not (et_B (ev_call (z := .bl (wholeD 0 9 di)) (ea_cons (ev_var rfl) (ea_cons ev_c (ea_cons ev_c ea_nil))) fun H4 e4 Q4 q4 _ => ⟨x', di, 0, 9, rfl, Dat.mono (ex.trans e4) hxd, fun H5 e5 => q4 H5 e5⟩))) (fun z => ?_)) ?_) (fun z H4 e4 => ?_) (fun z H4 e4 => ?_)
      · -- is it in what is let
        have z3 : wholeD 0 9 di = true := by simpa using z
        obtain ⟨n, rfl, n0, n9⟩ := wholeD_int z3
        obtain rfl := int_dat hxd
        intro H4 e4 Q4 q4
        refine ⟨.int n, rfl, .ref r, rfl, sv, rfl, r, rows, sv, _, _, _, rfl, sq_of ((ex.trans e4) _ _ hrw), hR, Dat.mono e4 hsv, by have := inn.pile; omega, fun l3 H6 n6 e6 h6 => ?_⟩
        rw [← lets_dAt] at h6
        refine ⟨l3, _, rfl, .inl (sq_of h6), rfl, flat_ints _, !g, ?_, q4 H6 e6⟩
        rw [if_pos rfl, inV_int, hg]
        show V.bl (!decide (n ∈ spanI (letsNow ss (dayList rows)))) = V.bl (!isLet (letsNow ss (dayList rows)) (some n))
        by_cases q : isLet (letsNow ss (dayList rows)) (some n) = true
        · rw [decide_eq_true (span_iff9.mpr q), q]
        · rw [decide_eq_false (fun h => q (span_iff9.mp h)), Bool.not_eq_true _ |>.mp q]
      · -- what is no whole number is not let
        cases w : wholeD 0 9 di with
        | true => rfl
        | false =>
          have : g = false := by
            rw [hg]
            cases q : isLet (letsNow ss (dayList rows)) (intO di) with
            | false => rfl
            | true =>
              obtain ⟨n, rfl, hn⟩ := intO_let q
              obtain ⟨n0, n6⟩ := let_ten hR inn hn
              rw [show wholeD 0 9 (.int n) = (decide (0 ≤ n) && decide (n ≤ 9)) from rfl, decide_eq_true n0, decide_eq_true n6] at w
              cases w
          rw [this]
          rfl
      · -- refused
        have z2 : isLet (letsNow ss (dayList rows)) (intO di) = false := by rw [← hg]; simpa using z
        have hb2 : badAt (dayList rows) [st0 a b] its 0 = some (7, .int (i : Int)) := by
          rw [hb]
          unfold badAt
          rw [if_neg (by rw [z2]; exact Bool.false_ne_true)]
        rw [hb2] at k
        exact s_ret ev_c fun H5 e5 => k H5 ((ex.trans e4).trans e5)
      · have z2 : isLet (letsNow ss (dayList rows)) (intO di) = true := by rw [← hg]; simpa using z
        obtain ⟨n, rfl, hn⟩ := intO_let z2
        obtain rfl := int_dat hxd
        have hb2 : badAt (dayList rows) [st0 a b] its 0 = badAt (dayList rows) (ss ++ [nextSt (dayList rows) ss n]) (its.drop (i + 1)) (i + 1) := by
          rw [hb]
          conv => lhs; unfold badAt
          rw [if_pos z2]
          rfl
        obtain ⟨k0, kp⟩ := let_pos hR hn
        obtain ⟨z1, z2'⟩ := inn.head hR hn
        have ex4 := ex.trans e4
        refine ⟨.ref r, rfl, sv, rfl, .int n, rfl, r, rows, sv, _, n, _, _, rfl, sq_of (ex4 _ _ hrw), hR, Dat.mono e4 hsv, k0, inn.pile, by have := inn.hl; omega, z1, z2', fun v1 H10 e10 hv1 => ?_⟩
        obtain ⟨lr, xs', rfl, hlr, hxs'⟩ := lst_dat hv1
        obtain ⟨u0, u1, rfl, x0, x1⟩ := two_dat hxs'
        refine ⟨lr, _, 0, _, rfl, rfl, .inl hlr, rfl, ?_⟩
        obtain ⟨nb1, nb2⟩ := next_bd (dayList rows) ss n
        have i1 : ((ss.length - 1 : Nat) : Int) + 1 = (((ss ++ [nextSt (dayList rows) ss n]).length - 1 : Nat) : Int) := by
          rw [List.length_append, sl]
          simp
        refine ⟨u0, ss ++ [nextSt (dayList rows) ss n], _, rfl, ex4.trans e10, ?_, inn.next hR hn, hb2, by rw [List.length_append, sl]; rfl⟩
        rw [i1, ← nb1, ← nb2] at x0
        rw [cur_app]
        exact x0
    · rw [List.drop_eq_nil_of_le (by omega)] at hb
      rw [hb] at k
      dsimp only
      refine s_ret (v := .bl true) ev_c fun H5 e5 => ?_
      exact k H5 (ex.trans e5)
theorem ok_late (RL : Cl8 P w K mg base "_law_rows" fRL dRL ["_law_spring_here"] 15 spRowsL) (F : Fun K "_law_late_rows" "_law_late_rows" sLate f fd) (B : Blt mg) (W : Drw K mg fD fO dD dO) : FnOk P w K mg base CX0 16 f fd ["_law_spring_here", "_law_heads"] spLate := by
  have GD : FnOk P w K mg base CX0 15 fD dD ["_law_spring_here", "_law_size"] spDraw := ok_draw W.D B
  have GO : FnOk P w K mg base CX0 15 fO dO ["_law_spring_here", "_law_menu"] (spOf K) := ok_of W.O B W.D W.bD W.mD
  refine F.ok scLate (fun vs H Q E h => ?_) (fun cdv A outer s H vs Q E hr h => ?_)
  · obtain ⟨p, hl, hs, rfl, _⟩ := h
    rfl
  · obtain ⟨p, hl, hs, rfl, sp, hh, hm, hp, hs0, hs1, k⟩ := h
    refine ⟨_, (pss_cons (ps_set (i := 2) scLate.nd rfl (.inl rfl) (pe_call RL.G hr (by rfl) RL.m RL.k RL.b .nil pass0 (pa_cons (pv 0) pa_nil)))
      (pss_cons (ps_if (pt_cmpR op_eq (pe_call GD hr (by rfl) W.mD W.D.kp W.bD .nil pass0 (pa_cons (pv 0) (pa_cons pe_int pa_nil))) pe_int (nomark _)) (pss_cons (ps_asg (pe_call GO hr (by rfl) W.mO W.O.kp W.bO .nil pass0 (pa_cons (pv 0) (pa_cons (pv 1) pa_nil))) (pg_sub (pv 2) pe_int set_list))
      (pss_one (ps_ret (pe_slice sl_list (pv 2) po_none (po_some pe_int))))) pss_nil)
      (pss_one (ps_ret (pv 2))))), ?_⟩
    refine q_asgE' ⟨.ref p, rfl, p, rfl, sp, fun r ss H1 nr b1 hr1 s1 rs l4 => ?_⟩
    have rp : r ≠ p := fun z => sp.some (z ▸ nr)
    have two := rs.two
    have hlr : hl ≠ r := fun z => by rw [z, nr] at hh; cases hh
    try dsimp only [List.set_cons_zero, List.set_cons_succ]
    refine (?_ : tSeq _ _ _ _ _)
    refine draw_ev (n := 3) rfl s1 (by decide) (by decide) fun d H2 d0 d1 b2 s2 => ?_
    have hr2 := b2 _ _ rp hr1
    have hh2 := b2 _ _ hp (b1 _ _ hp hh)
    have b02 := b1.trans b2
    refine ⟨rfl, decide (V.int d = V.int 0), rfl, ?_⟩
    by_cases z : d = 0
    · show (if decide (V.int d = V.int 0) = true then _ else _)
      rw [if_pos (by rw [z]; rfl)]
      refine (?_ : tSeq _ _ _ _ _)
      refine ⟨.ref p, rfl, .ref hl, rfl, p, hl, _, rfl, sq_of hh2, hp, by rw [List.length_map]; exact hs0, by rw [List.length_map]; omega, s2, fun x H3 hx b3 s3 => ?_⟩
      obtain ⟨h, hh', rfl⟩ := List.mem_map.mp hx
      have hr3 := b3 _ _ rp hr2
      refine ⟨.ref r, rfl, r, _, (0 : Int), 0, rfl, rfl, hr3, ixN_nat (by rw [List.length_map]; exact Nat.lt_of_lt_of_le (by decide) two), ?_⟩
      obtain ⟨H4, eH4⟩ : ∃ H4, H4 = upd H3 r (.lst ((ss.map V.str).set 0 (.str h))) := ⟨_, rfl⟩
      rw [← eH4]
      obtain ⟨s0, sr, rfl⟩ : ∃ s0 sr, ss = s0 :: sr := by
        cases ss with
        | nil => simp at two
        | cons a b => exact ⟨a, b, rfl⟩
      have hr4 : H4 r = some (.lst ((h :: sr).map V.str)) := by rw [eH4, upd_same]; rfl
      have b4 : But r H3 H4 := fun c o n e => by rw [eH4, upd_ne n]; exact e
      have s4 : SpringAt H4 p := by
        obtain ⟨x1, x2, x3, hx⟩ := s3
        exact ⟨x1, x2, x3, b4 _ _ (Ne.symm rp) hx⟩
      refine (el_sl (ev_var rfl) eo_none (eo_some ev_c) (sq_of hr4) : EvL _ _ H4 _) H4 (Ex.refl H4) _ fun r5 H5 n5 e5 h5 => ?_
      rw [cut_to (by decide), ← List.map_take] at h5
      have rm := rs.toM9 (by omega)
      refine k r5 ((h :: sr).take 3) H5 ?_ h5 (s4.ext e5) ?_ (by rw [List.length_take]; omega)
      · intro c o n e
        refine e5 _ _ (b4 _ _ (ne_of_none e nr) (b3 _ _ n (b02 _ _ n e)))
      · refine ⟨?_, ?_, ?_, ?_⟩
        · rw [List.length_take, List.length_cons]
          simp at two
          show 2 ≤ min 3 _
          omega
        · rw [List.length_take]
          omega
        · exact hm h hh'
        · intro s hs'
          refine rm.days s ?_
          have e : (List.take 3 (h :: sr)).drop 1 = sr.take 2 := rfl
          rw [e] at hs'
          exact List.mem_of_mem_take hs'
    · show (if decide (V.int d = V.int 0) = true then _ else _)
      rw [if_neg (by rw [decide_eq_false (fun q => z (V.int.inj q))]; decide)]
      refine s_ret (ev_var rfl) fun H3 e3 => ?_
      exact k r ss H3 (b02.trans (But.of e3)) (e3 _ _ hr2) (s2.ext e3) (rs.toM9 (by omega)) (by omega)
theorem ok_bentL (F : Fun K "_law_bent_lots" "_law_bent_lots" sBentL f fd) (B : Blt mg) (W : Drw K mg fD fO dD dO) (mli : mg "list" = none) : FnOk P w K mg base CX0 16 f fd ["_law_spring_here", "_law_lots"] spBentL := by
  have GD : FnOk P w K mg base CX0 15 fD dD ["_law_spring_here", "_law_size"] spDraw := ok_draw W.D B
  have GO : FnOk P w K mg base CX0 15 fO dO ["_law_spring_here", "_law_menu"] (spOf K) := ok_of W.O B W.D W.bD W.mD
  refine F.ok scBentL (fun vs H Q E h => ?_) (fun cdv A outer s H vs Q E hr h => ?_)
  · obtain ⟨p, t, ks, rfl, _⟩ := h
    rfl
  · obtain ⟨p, t, ks, rfl, sp, ht, kl, k⟩ := h
    refine ⟨_, (pss_cons (ps_par (i := 2) (j := 3) rfl scBentL.nd rfl rfl (by decide)  rfl rfl (pa_cons (pe_call GD hr (by rfl) W.mD W.D.kp W.bD .nil pass0 (pa_cons (pv 0) (pa_cons (pe_op op_add (pe_callB call_len_seq (by rfl) B.len PySem.boot_len (pa_cons (pv 1) pa_nil)) pe_int) pa_nil))) (pa_cons (pe_call GD hr (by rfl) W.mD W.D.kp W.bD .nil pass0 (pa_cons (pv 0) (pa_cons pe_int pa_nil))) pa_nil)) (by rfl))
      (pss_cons (ps_if (pt_cmpR op_eq (pv 3) pe_int (nomark _)) (pss_one (ps_ret (pe_call GO hr (by rfl) W.mO W.O.kp W.bO .nil pass0 (pa_cons (pv 0) (pa_cons (pe_lst (pa_cons (pe_callTy call_list_of (by rfl) mli (by decide +kernel) (pa_cons (pv 1) pa_nil)) (pa_cons pe_non (pa_cons pe_int (pa_cons pe_str (pa_cons (pe_op op_catA (pv 1) (pe_tup (pa_cons pe_int pa_nil))) (pa_cons (pe_op op_catA (pv 1) (pe_tup (pa_cons pe_int pa_nil))) (pa_cons (pe_slice sl_tupA (pv 1) po_none (po_some (pe_un un_neg pe_int))) (pa_cons (pe_slice sl_tupA (pv 1) (po_some pe_int) po_none) pa_nil))))))))) pa_nil))))) pss_nil)
      (pss_cons (ps_set (i := 4) scBentL.nd rfl (.inl rfl) (pe_call GO hr (by rfl) W.mO W.O.kp W.bO .nil pass0 (pa_cons (pv 0) (pa_cons (pe_lst (pa_cons pe_non (pa_cons (pe_un un_neg pe_int) (pa_cons pe_int (pa_cons (pe_op op_pow pe_int pe_int) (pa_cons pe_str (pa_cons (pe_tup (pa_cons pe_int pa_nil)) (pa_cons pe_int (pa_cons pe_int (pa_cons pe_int pa_nil)))))))))) pa_nil))))
      (pss_cons (ps_if (pt_cmpR op_eq (pv 3) pe_int (nomark _)) (pss_one (ps_ret (pe_op op_catA (pe_op op_catA (pe_slice sl_tupA (pv 1) po_none (po_some (pv 2))) (pe_tup (pa_cons (pv 4) pa_nil))) (pe_slice sl_tupA (pv 1) (po_some (pv 2)) po_none)))) pss_nil)
      (pss_one (ps_ret (pe_ifExp (pt_cmpR op_eq (pv 3) pe_int (nomark _)) (pe_op op_catA (pe_op op_catA (pe_slice sl_tupA (pv 1) po_none (po_some (pv 2))) (pe_tup (pa_cons (pv 4) pa_nil))) (pe_slice sl_tupA (pv 1) (po_some (pe_op op_add (pv 2) pe_int)) po_none)) (pv 1)))))))), ?_⟩
    have tq : ∀ {H9 : Hp} {σ9 : L2.St}, But p H H9 → σ9[1]? = some (some (.ref t)) → EvQ (tVar 1) σ9 H9 (ks.map V.int) := fun b9 h => eq_of (ev_var h) (spring_stay sp b9 _ _ ht)
    have ten : ∀ {xs : List Int}, xs.length ≤ 10 → Ten (intsD xs) := fun {xs} h => by unfold Ten intsD itemsD; rw [List.length_map]; exact h
    refine ⟨.ref p, rfl, ?_⟩
    refine (ev_op (ev_lenQ (tq (But.refl H) rfl)) ev_c rv_I0 : Ev _ _ H _) H (Ex.refl H) _ fun H1 e1 => ⟨p, _, rfl, by rw [List.length_map]; omega, by rw [List.length_map]; omega, sp.ext e1, fun at_ H2 a0 a1 b2 s2 => ⟨.ref p, rfl, p, 7, rfl, by decide, by decide, s2, fun way H3 w0 w1 b3 s3 => ⟨_, _, rfl, ?_⟩⟩⟩
    rw [List.length_map] at a1
    have b03 : But p H H3 := ((But.of e1).trans b2).trans b3
    dsimp only [List.set_cons_zero, List.set_cons_succ]
    refine q_when (b := decide (V.int way = V.int 0)) (et_test (ev_op (ev_var rfl) ev_c (rv_eq rfl))) (fun _ H4 e4 => ?_) (fun _ H4 e4 => ?_)
    · have b04 := b03.trans (But.of e4)
      refine ed_pick (H := H4) (S := Ten) (n := 8) rfl (eds_cons (ed_l (ns := ks) (fun H9 b9 s9 => el_listQ (tq (b04.trans b9) rfl)) (Nat.zero_le _)) (eds_cons (ed_of (d := .none) (fun _ _ _ => d_non) (Nat.zero_le _)) (eds_cons (ed_of (d := .int 0) (fun _ _ _ => d_int) (Nat.zero_le _)) (eds_cons (ed_of (d := .str "") (fun _ _ _ => d_str) (Nat.zero_le _))
        (eds_cons (ed_q (ns := ks ++ [0]) (fun H9 b9 s9 => eq_is (eq_cat (tq (b04.trans b9) rfl) (eq_tup (xs := [.int 0]) (ea_cons ev_c ea_nil) (Nat.le_of_ble_eq_true rfl)) (by rw [List.length_map]; show ks.length + 1 ≤ 100000; omega)) (by rw [List.map_append]; rfl)) (ten (by rw [List.length_append]; show ks.length + 1 ≤ 10; omega)))
        (eds_cons (ed_q (ns := ks ++ [1]) (fun H9 b9 s9 => eq_is (eq_cat (tq (b04.trans b9) rfl) (eq_tup (xs := [.int 1]) (ea_cons ev_c ea_nil) (Nat.le_of_ble_eq_true rfl)) (by rw [List.length_map]; show ks.length + 1 ≤ 100000; omega)) (by rw [List.map_append]; rfl)) (ten (by rw [List.length_append]; show ks.length + 1 ≤ 10; omega)))
        (eds_cons (ed_q (ns := ks.dropLast) (fun H9 b9 s9 => eq_is (eq_slice (tq (b04.trans b9) rfl) eo_none (eo_some (ev_un ev_c ru_neg))) (by rw [cut_init9, ← List.map_dropLast])) (ten (by rw [List.length_dropLast]; omega)))
        (eds_cons (ed_q (ns := ks.drop 1) (fun H9 b9 s9 => eq_is (eq_slice (tq (b04.trans b9) rfl) (eo_some ev_c) eo_none) (by rw [cut_from (by decide), List.map_drop]; rfl)) (ten (by rw [List.length_drop]; omega))) eds_nil)))))))) (by decide) (by decide) H4 (But.refl H4) (s3.ext e4) _ fun v d H5 b5 s5 hv hd => k v d H5 (b04.trans b5) s5 hv hd
    have b04 := b03.trans (But.of e4)
    have s4 := s3.ext e4
    -- fresh
    refine q_asgE' ?_
    refine ed_pick (H := H4) (S := fun _ => True) (n := 9) rfl (eds_cons (ed_of (d := .none) (fun _ _ _ => d_non) trivial) (eds_cons (ed_of (d := .int (-1)) (fun _ _ _ => d_neg) trivial) (eds_cons (ed_of (d := .int 7) (fun _ _ _ => d_int) trivial)
      (eds_cons (ed_of (d := .int (10 ^ 30)) (fun H9 _ _ => er_of (v := .int (10 ^ 30)) (ev_op ev_c ev_c (rv_I ⟨by decide, by decide, by decide⟩)) fun _ _ => .int (10 ^ 30)) trivial) (eds_cons (ed_of (d := .str "1") (fun _ _ _ => d_str) trivial)
      (eds_cons (ed_of (d := .tuple [.int 1]) (fun H9 b9 s9 => d_tup (by obtain ⟨l, m, t, z⟩ := s9; rw [z]; simp) (d_cons d_int d_nil) (Nat.le_of_ble_eq_true rfl)) trivial) (eds_cons (ed_of (d := .int 0) (fun _ _ _ => d_int) trivial) (eds_cons (ed_of (d := .int 1) (fun _ _ _ => d_int) trivial) (eds_cons (ed_of (d := .int 2) (fun _ _ _ => d_int) trivial) eds_nil))))))))) (by decide) (by decide) H4 (But.refl H4) s4 _ fun vx dx H5 b5 s5 hvx _ => ?_
    have b05 := b04.trans b5
    try dsimp only [List.set_cons_zero, List.set_cons_succ]
    have putE : ∀ {H9 : Hp} {σ9 : L2.St} {lo : TO} {m : Nat}, Ex H5 H9 → σ9[1]? = some (some (.ref t)) → σ9[2]? = some (some (.int at_)) → σ9[4]? = some (some vx) → EvQ (tSl (rSlA K) (tVar 1) lo tNoPart) σ9 H9 ((ks.drop m).map V.int) →
        EvQ (tOp (rCatA K) (tOp (rCatA K) (tSl (rSlA K) (tVar 1) tNoPart (tPart (tVar 2))) (tTup (tCons (tVar 4) tNil))) (tSl (rSlA K) (tVar 1) lo tNoPart)) σ9 H9 ((ks.take at_.toNat).map V.int ++ [vx] ++ (ks.drop m).map V.int) := fun {H9 σ9 lo m} e9 h1 h2 h4 hq =>
      eq_cat (eq_cat (eq_is (eq_slice (tq (b05.trans (But.of e9)) h1) eo_none (eo_some (ev_var h2))) (by rw [cut_to a0, List.map_take])) (eq_tup (xs := [vx]) (ea_cons (ev_var h4) ea_nil) (Nat.le_of_ble_eq_true rfl)) (by rw [List.length_map, List.length_take]; show _ + 1 ≤ 100000; omega)) hq (by rw [List.length_append, List.length_map, List.length_map, List.length_take, List.length_drop]; show _ + 1 + _ ≤ 100000; omega)
    have fin : ∀ {H9 : Hp} {v : V} {m : Nat}, Ex H5 H9 → IsT ((ks.take at_.toNat).map V.int ++ [vx] ++ (ks.drop m).map V.int) H9 v → (ks.take at_.toNat).length + 1 + (ks.drop m).length ≤ 10 → Q v H9 := fun {H9 v m} e9 ⟨tt, ev, htt⟩ len => by
      subst ev
      have s9 := s5.ext e9
      refine k (.ref tt) (.tuple ((ks.take at_.toNat).map PyData.int ++ [dx] ++ (ks.drop m).map PyData.int)) H9 (b05.trans (But.of e9)) s9 ?_ ?_
      · refine .tup (htt.imp (fun z => by rw [hide_ne (rd_ne s9 htt)]; exact z) fun ⟨o, z⟩ => ⟨o, by rw [hide_ne (rd_ne s9 htt)]; exact z⟩) (dats_app (dats_app (dats_ints _) (.cons (Dat.mono (But.of (p := p) e9).hide hvx) .nil)) (dats_ints _))
      · show ((ks.take at_.toNat).map PyData.int ++ [dx] ++ (ks.drop m).map PyData.int).length ≤ 10
        rw [List.length_append, List.length_append, List.length_map, List.length_map]
        exact len
    have l1 : (ks.take at_.toNat).length ≤ at_.toNat := by rw [List.length_take]; omega
    refine q_when (b := decide (V.int way = V.int 1)) (et_test (ev_op (ev_var rfl) ev_c (rv_eq rfl))) (fun _ H6 e6 => ?_) (fun _ H6 e6 => ?_)
    · refine (putE (m := at_.toNat) e6 rfl rfl rfl (eq_is (eq_slice (tq (b05.trans (But.of e6)) rfl) (eo_some (ev_var rfl)) eo_none) (by rw [cut_from a0, List.map_drop])) : EvQ _ _ H6 _) H6 (Ex.refl H6) _ fun v H7 e7 hv => ?_
      exact fin (m := at_.toNat) (e6.trans e7) hv (by rw [List.length_drop]; omega)
    · refine (et_test (ev_op (ev_var rfl) ev_c (rv_eq rfl)) : EvT _ _ H6 (decide (V.int way = V.int 2))) H6 (Ex.refl H6) _ fun H7 e7 => ?_
      have e57 := e6.trans e7
      by_cases z : decide (V.int way = V.int 2) = true
      · rw [if_pos z]
        refine (putE (m := (at_ + 1).toNat) e57 rfl rfl rfl (eq_is (eq_slice (tq (b05.trans (But.of e57)) rfl) (eo_some (ev_op (ev_var rfl) ev_c rv_I0)) eo_none) (by rw [cut_from (by omega), List.map_drop])) : EvQ _ _ H7 _) H7 (Ex.refl H7) _ fun v H8 e8 hv => ?_
        exact fin (m := (at_ + 1).toNat) (e57.trans e8) hv (by rw [List.length_drop]; omega)
      · rw [if_neg z]
        refine (ev_var rfl : Ev (tVar 1) _ H7 (.ref t)) H7 (Ex.refl H7) _ fun H8 e8 => ?_
        have b08 := b05.trans (But.of (e57.trans e8))
        have s8 := s5.ext (e57.trans e8)
        exact k (.ref t) (intsD ks) H8 b08 s8 (tupD1 s8 (spring_stay sp b08 _ _ ht)) (ten (by omega))
theorem ok_noTab (F : Fun K "_law_no_table" "_law_no_table" sNoTab f fd) (B : Blt mg) (W : Drw K mg fD fO dD dO) : FnOk P w K mg base CX0 16 f fd ["_law_spring_here"] spNoTab := by
  have GO : FnOk P w K mg base CX0 15 fO dO ["_law_spring_here", "_law_menu"] (spOf K) := ok_of W.O B W.D W.bD W.mD
  refine F.ok scNoTab (fun vs H Q E h => ?_) (fun cdv A outer s H vs Q E hr h => ?_)
  · obtain ⟨p, rfl, _⟩ := h
    rfl
  · obtain ⟨p, rfl, sp, k⟩ := h
    refine ⟨_, (pss_one (ps_ret (pe_call GO hr (by rfl) W.mO W.O.kp W.bO .nil pass0 (pa_cons (pv 0) (pa_cons (pe_lst (pa_cons (pe_tup pa_nil) (pa_cons (pe_tup pa_nil) (pa_cons (pe_tup pa_nil) (pa_cons (pe_tup pa_nil) (pa_cons (pe_tup pa_nil) (pa_cons pe_non (pa_cons (pe_lst pa_nil) (pa_cons pe_int (pa_cons pe_str (pa_cons (pe_tup (pa_cons (pe_tup pa_nil) pa_nil)) (pa_cons (pe_tup (pa_cons pe_int pa_nil)) pa_nil)))))))))))) pa_nil))))), ?_⟩
    have e0 : ∀ {H9 : Hp} {σ9 : L2.St}, EvD (tTup tNil) σ9 p H9 (fun d => d ∈ noTabD) := fun {H9 σ9} => ed_of (d := .tuple []) (fun H9 b9 s9 => d_tup (by obtain ⟨l, m, t, z⟩ := s9; rw [z]; simp) d_nil (Nat.zero_le _)) noTab_all.1.1
    exact ed_pick (H := H) (S := fun d => d ∈ noTabD) (n := 11) rfl (eds_cons e0 (eds_cons e0 (eds_cons e0 (eds_cons e0 (eds_cons e0 (eds_cons (ed_of (d := .none) (fun _ _ _ => d_non) noTab_all.1.2.1) (eds_cons (ed_of (d := .list []) (fun H9 b9 s9 => d_lst (by obtain ⟨l, m, t, z⟩ := s9; rw [z]; simp) d_nil (Nat.zero_le _)) noTab_all.1.2.2.1)
      (eds_cons (ed_of (d := .int 0) (fun _ _ _ => d_int) noTab_all.1.2.2.2.1) (eds_cons (ed_of (d := .str "") (fun _ _ _ => d_str) noTab_all.1.2.2.2.2) (eds_cons (ed_of (d := .tuple [.tuple []]) (fun H9 b9 s9 => d_tup (by obtain ⟨l, m, t, z⟩ := s9; rw [z]; simp) (d_cons (d_tup (by obtain ⟨l, m, t, z⟩ := s9; rw [z]; simp) d_nil (Nat.zero_le _)) d_nil) (Nat.le_of_ble_eq_true rfl)) noTab_all.2.1)
      (eds_cons (ed_of (d := .tuple [.int 0]) (fun H9 b9 s9 => d_tup (by obtain ⟨l, m, t, z⟩ := s9; rw [z]; simp) (d_cons d_int d_nil) (Nat.le_of_ble_eq_true rfl)) noTab_all.2.2) eds_nil))))))))))) (by decide) (by decide) H (But.refl H) sp _ fun v d H5 b5 s5 hv hd => k v d H5 b5 s5 hv hd
theorem ok_quiet (PT : Cl8 P w K mg base "_law_path" fPT dPT ["_law_rows_now", "_law_lots"] 15 spPath) (F : Fun K "_law_quiet_end" "_law_quiet_end" sQuiet f fd) (B : Blt mg) : FnOk P w K mg base CX0 16 f fd ["_law_rows_now", "_law_spot", "_law_lots"] spQuiet := by
  refine F.ok scQuiet (fun vs H Q E h => ?_) (fun cdv A outer s H vs Q E hr h => ?_)
  · obtain ⟨r, t, rows, ks, a, b, z, rfl, _⟩ := h
    rfl
  · obtain ⟨r, t, rows, ks, a, b, z, rfl, hrw, hR, hw, ht, hl, kl, k⟩ := h
    refine ⟨_, (pss_cons (ps_par (i := 3) (j := 4) rfl scQuiet.nd rfl rfl (by decide)  rfl rfl (pa_cons pe_int (pa_cons (pe_ix ix_list (pe_call PT.G hr (by rfl) PT.m PT.k PT.b .nil pass0 (pa_cons (pv 0) (pa_cons (pv 2) pa_nil))) pe_int (fun _ _ => rfl)) pa_nil)) (by rfl))
      (pss_cons (ps_for PassesOwn.never rfl (pi_list (pv 4)) (pg_name (i := 5) scQuiet.nd rfl (Or.inl rfl)) (pss_one (ps_set (i := 3) scQuiet.nd rfl (.inl rfl) (pe_ifExp (pt_cmpR op_in_seq (pv 1) (pv 5) rfl) pe_int (pe_op op_add (pv 3) pe_int)))))
      (pss_one (ps_ret (pv 3))))), ?_⟩
    refine ⟨.ref r, rfl, .ref t, rfl, r, t, rows, ks, a, b, rfl, hrw, hR, hw, ht, hl, by omega, fun v H1 e1 hv => ?_⟩
    obtain ⟨lv, xs, rfl, hlv, hxs⟩ := lst_dat hv
    obtain ⟨u0, u1, rfl, d6, d7⟩ := two_dat hxs
    obtain ⟨l7, uv, rfl, h7, d7⟩ := lst_dat d7
    have ul : uv.length = ks.length := by rw [Dats.len d7, List.length_map]; exact takes_len _ _ _
    refine ⟨lv, _, 1, _, rfl, rfl, .inl hlv, rfl, _, _, rfl, ?_⟩
    dsimp only [List.set_cons_zero, List.set_cons_succ]
    refine (?_ : tSeq _ _ _ _ _)
    refine ⟨.ref l7, rfl, l7, rfl, ⟨uv, .inl h7⟩, for_list (K := K) (a := l7) (xs := uv)
      (fun i σ H' => ∃ (m : Int) (y : Option V), σ = [some (.ref r), some (.int z), some (.ref t), some (.int m), some (.ref l7), y] ∧ Ex H1 H' ∧ 0 ≤ m ∧ m ≤ (i : Int))
      ⟨0, none, rfl, Ex.refl H1, Int.le_refl 0, Int.le_refl 0⟩ (fun i σ H' _ ⟨_, _, _, ex, _⟩ => .inl (ex_rd ex h7)) ?_ ?_⟩
    · rintro i x σ' H' hi ⟨m, y, rfl, ex, m0, m1⟩
      have hlt : i < uv.length := (List.getElem?_eq_some_iff.mp hi).1
      obtain ⟨x', hx', dx⟩ := dats_get (i := i) (d := intsD ((takes (dayList rows) [st0 a b] ks).getD i [])) d7 (by rw [List.getElem?_map, List.getD_eq_getElem?_getD, List.getElem?_eq_getElem (by rw [takes_len]; omega)]; rfl)
      obtain rfl : x' = x := Option.some.inj (hx'.symm.trans hi)
      obtain ⟨q2, rfl, hq⟩ := ints_dat dx
      dsimp only [List.set_cons_zero, List.set_cons_succ]
      refine (et_test (ev_op (ev_var rfl) (ev_var rfl) (rv_isT (.inl (ex_rd ex hq)) rfl (flat_ints _))) : EvT _ _ H' _) H' (Ex.refl H') _ fun H3 e3 => ?_
      cases inV (.int z) (((takes (dayList rows) [st0 a b] ks).getD i []).map V.int) with
      | true => exact ⟨0, _, rfl, ex.trans e3, Int.le_refl 0, by omega⟩
      | false => exact ⟨.int m, rfl, m, 1, rfl, rfl, m + 1, _, rfl, ex.trans e3, by omega, by omega⟩
    · rintro σ' H' ⟨m, y, rfl, ex, m0, m1⟩
      exact s_ret (ev_var rfl) fun H3 e3 => k m H3 m0 (by omega) ((e1.trans ex).trans e3)
theorem ok_dueR (AC : Cl8 P w K mg base "_law_are_choices" fAC dAC ["_law_rows_now", "_law_thing"] 15 spAreC) (IH : Cl8 P w K mg base "_law_is_whole" fIH dIH ["_law_thing", "_law_least", "_law_most_now"] 15 spIH) (PT : Cl8 P w K mg base "_law_path" fPT dPT ["_law_rows_now", "_law_lots"] 15 spPath) (HE : Cl8 P w K mg base "_law_head" fHE dHE ["_law_rows_now"] 15 (spHead K))
    (F : Fun K "_law_due_rested" "_law_due_rested" sDueR f fd) (B : Blt mg) : FnOk P w K mg base CX0 16 f fd ["_law_rows_now", "_law_spot", "_law_lots", "_law_bound"] spDueR := by
  refine F.ok scDueR (fun vs H Q E h => ?_) (fun cdv A outer s H vs Q E hr h => ?_)
  · obtain ⟨r, vp, vc, vb, rows, a, b, dp, dc, db, rfl, _⟩ := h
    rfl
  · obtain ⟨r, vp, vc, vb, rows, a, b, dp, dc, db, rfl, hrw, hR, hw, hvp, hvc, hvb, ten, k⟩ := h
    have two := hR.two
    refine ⟨_, (pss_cons (ps_if (L2.PW.pt (pw_or (pt_not (pt_val (pe_call AC.G hr (by rfl) AC.m AC.k AC.b .nil pass0 (pa_cons (pv 0) (pa_cons (pv 2) pa_nil))))) (pw_or1 (pt_not (pt_val (pe_call IH.G hr (by rfl) IH.m IH.k IH.b .nil pass0 (pa_cons (pv 1) (pa_cons pe_int (pa_cons (pe_op op_sub (pe_ix ix_list (pe_call HE.G hr (by rfl) HE.m HE.k HE.b .nil pass0 (pa_cons (pv 0) pa_nil)) pe_int (fun _ _ => rfl)) pe_int) pa_nil))))))))) (pss_one (ps_ret pe_bl)) pss_nil)
      (pss_cons (ps_if (pt_not (pt_val (pe_call IH.G hr (by rfl) IH.m IH.k IH.b .nil pass0 (pa_cons (pv 3) (pa_cons pe_int (pa_cons (pe_callB call_len_seq (by rfl) B.len PySem.boot_len (pa_cons (pv 2) pa_nil)) pa_nil)))))) (pss_one (ps_ret pe_bl)) pss_nil)
      (pss_cons (ps_set (i := 4) scDueR.nd rfl (.inl rfl) (pe_ix ix_list (pe_call PT.G hr (by rfl) PT.m PT.k PT.b .nil pass0 (pa_cons (pv 0) (pa_cons (pv 2) pa_nil))) pe_int (fun _ _ => rfl)))
      (pss_one (ps_ret (pe_callB (cr_all rfl) (by rfl) B.all bAll (pa_cons (pe_lc (own := [("_law_taken", 5)]) (g := gName 5) (tt := tYes) rfl scDueR.nd (pi_list (pe_slice sl_list (pv 4) (po_some (pe_op op_sub (pe_callB call_len_seq (by rfl) B.len PySem.boot_len (pa_cons (pv 2) pa_nil)) (pv 3))) po_none)) (blkOk_by (N := ["_law_rows_now", "_law_spot", "_law_lots", "_law_bound", "_law_used_now", "_law_taken"]) (sc := defScope sDueR) (by decide +kernel)) (fun _ _ _ _ _ => (pg_name (i := 5) scDueR.nd rfl (Or.inl rfl))) (fun _ _ _ _ _ => pts_nil) (fun _ _ _ _ _ => (as_peK (t' := tOp (rIn K true) (tVar 1) (tVar 5)) (pe_cmpR op_notIn_seq (pv 1) (pv 5) rfl) rfl))) pa_nil))))))), ?_⟩
    obtain ⟨g1, hg1⟩ : ∃ g1, g1 = (choicesOut (dayList rows) a b dc).isNone := ⟨_, rfl⟩
    unfold restedB at k
    rw [← hg1] at k
    refine q_when (b := !(g1 && wholeD 0 (a - 1) dp)) (et_is (et_or (a := !g1) (b := !wholeD 0 (a - 1) dp) (et_not (et_B (ev_call (z := .bl g1) (ea_cons (ev_var rfl) (ea_cons (ev_var rfl) ea_nil)) fun H4 e4 Q4 q4 _ => ⟨r, vc, rows, a, b, dc, rfl, e4 _ _ hrw, hR, hw, Dat.mono e4 hvc, ten, fun H5 e5 => by rw [← hg1]; exact q4 H5 e5⟩)))
      (fun _ => et_not (et_B (ev_call (vs := [vp, .int 0, .int (a - 1)]) (z := .bl (wholeD 0 (a - 1) dp)) (ea_cons (ev_var rfl) (ea_cons ev_c (ea_cons (ev_op (fun H4 e4 Q4 q4 => ⟨.ref r, rfl, r, rows, a, b, rfl, sq_of (e4 _ _ hrw), by omega, hw, fun l H5 nl e5 hl5 => ⟨l, _, 0, _, rfl, rfl, sq_of hl5, rfl, q4 H5 e5⟩⟩) ev_c rv_I0) ea_nil))) fun H4 e4 Q4 q4 _ => ⟨vp, dp, 0, a - 1, rfl, Dat.mono e4 hvp, fun H5 e5 => q4 H5 e5⟩)))) (by cases g1 <;> cases wholeD 0 (a - 1) dp <;> rfl)) (fun z H1 e1 => ?_) (fun z H1 e1 => ?_)
    · refine s_ret (v := .bl false) ev_c fun H2 e2 => ?_
      have e : (g1 && (wholeD 0 (a - 1) dp && (wholeD 1 ((itemsD dc).length : Int) db && restEnd (takes (dayList rows) [st0 a b] ((itemsD dc).map intD)) (intD dp) (intD db)))) = false := by
        rw [← Bool.and_assoc, show (g1 && wholeD 0 (a - 1) dp) = false from (by
          cases q : (g1 && wholeD 0 (a - 1) dp) with
          | false => rfl
          | true => rw [q] at z; cases z), Bool.false_and]
      rw [e] at k
      exact k H2 (e1.trans e2)
    have z1 : g1 = true ∧ wholeD 0 (a - 1) dp = true := by simpa using z
    rw [z1.1, z1.2, Bool.true_and, Bool.true_and] at k
    rw [z1.1] at hg1
    obtain ⟨ks, rfl, hl, e1', e2'⟩ := choices_ints hg1.symm
    rw [e1', e2'] at k
    obtain ⟨zp, rfl, zp0, zp1⟩ := wholeD_int z1.2
    obtain rfl := int_dat hvp
    obtain ⟨t, rfl, ht⟩ := ints_dat hvc
    have kl : ks.length ≤ 10 := by rw [← e2']; exact ten
    refine q_when (b := !wholeD 1 (ks.length : Int) db) (et_not (et_B (ev_call (vs := [vb, .int 1, .int (ks.length : Int)]) (z := .bl (wholeD 1 (ks.length : Int) db)) (ea_cons (ev_var rfl) (ea_cons ev_c (ea_cons (ev_is (ev_lenQ (eq_of (ev_var rfl) (ex_rd e1 ht))) (by rw [List.length_map])) ea_nil))) fun H4 e4 Q4 q4 _ => ⟨vb, db, 1, (ks.length : Int), rfl, Dat.mono (e1.trans e4) hvb, fun H5 e5 => q4 H5 e5⟩))) (fun z H2 e2 => ?_) (fun z H2 e2 => ?_)
    · rw [show wholeD 1 (ks.length : Int) db = false by simpa using z, Bool.false_and] at k
      exact s_ret ev_c fun H3 e3 => k H3 ((e1.trans e2).trans e3)
    have z2 : wholeD 1 (ks.length : Int) db = true := by simpa using z
    rw [z2, Bool.true_and] at k
    obtain ⟨n, rfl, n1, n2⟩ := wholeD_int z2
    obtain rfl := int_dat hvb
    have e02 := e1.trans e2
    have k' : ∀ H', Ex H H' → Q (.bl (restEnd (takes (dayList rows) [st0 a b] ks) zp n)) H' := k
    obtain ⟨us, hus⟩ : ∃ us, us = takes (dayList rows) [st0 a b] ks := ⟨_, rfl⟩
    have usl : us.length = ks.length := by rw [hus]; exact takes_len _ _ _
    -- used
    refine q_asgE' ?_
    refine ⟨.ref r, rfl, .ref t, rfl, r, t, rows, ks, a, b, rfl, e02 _ _ hrw, hR, hw, ex_rd e02 ht, hl, by omega, fun v H3 e3 hv => ?_⟩
    obtain ⟨lv, xs, rfl, hlv, hxs⟩ := lst_dat hv
    obtain ⟨u0, u1, rfl, d6, d7⟩ := two_dat hxs
    obtain ⟨l7, uv, rfl, h7, d7⟩ := lst_dat d7
    rw [← hus] at d7 k'
    have ul : uv.length = ks.length := by rw [Dats.len d7, List.length_map, usl]
    refine ⟨lv, _, 1, _, rfl, rfl, .inl hlv, rfl, ?_⟩
    dsimp only [List.set_cons_zero, List.set_cons_succ]
    have e03 := e02.trans e3
    have en : ((ks.length : Int) - n).toNat = us.length - n.toNat := by omega
    refine q_retT (er_lcDX (K := K) (H := H3) (us.drop (us.length - n.toNat)) intsD (fun u => .bool (!inV (.int zp) (u.map V.int))) (fun _ => true) (fun s _ => by simp [noL])
      (fun H4 e4 Q4 q4 => (el_is (el_sl (ev_var rfl) (eo_some (ev_op (ev_is (ev_lenQ (eq_of (ev_var rfl) (ex_rd (e03.trans e4) ht))) (by rw [List.length_map])) (ev_var rfl) rv_I0)) eo_none (.inl (ex_rd e4 h7))) (by rw [cut_from (by omega), en]) : EvL _ _ H4 (uv.drop (us.length - n.toNat))) H4 (Ex.refl H4) _ fun l H5 nl e5 hl5 => q4 l _ H5 e5 (sq_of hl5) (by rw [List.map_drop]; exact dats_drop _ (Dats.mono (e4.trans e5) d7)) (by rw [List.length_drop]; omega))
      (fun u x H4 ms e4 hx => ?_)) fun v H4 e4 ⟨l, ys, ev, nl, hl4, hys⟩ => ?_
    · obtain ⟨q2, rfl, hq⟩ := ints_dat hx
      refine ⟨_, fun Rr hR => hR, rfl, et_yes, fun _ => er_of (ev_op (ev_var rfl) (ev_var rfl) (rv_notT9 (.inl hq) rfl (flat_ints _))) fun _ _ => .bl _⟩
    · subst ev
      rw [show (us.drop (us.length - n.toNat)).filter (fun _ => true) = us.drop (us.length - n.toNat) from List.filter_eq_self.mpr fun _ _ => rfl] at hys
      have hb : ys = ((us.drop (us.length - n.toNat)).map fun u => !inV (.int zp) (u.map V.int)).map V.bl := dats_bools (by rw [List.map_map]; exact hys)
      subst hb
      refine ⟨l, _, rfl, sq_of hl4, ?_⟩
      have : ((us.drop (us.length - n.toNat)).map fun u => !inV (.int zp) (u.map V.int)).all id = restEnd us zp n := by
        unfold restEnd
        rw [List.all_map]
        rfl
      rw [this]
      exact k' H4 (e03.trans e4)
end
end PW
namespace PW
open PySem PySem.Spec PyProof.Rows L2 Evl
/-! ### the checker: long rests -/
abbrev sIsEmpty : Stmt := top 50
theorem scIsEmpty : FnScope ["certificate"] ["certificate"] (defScope sIsEmpty) := ⟨rfl, rfl, rfl, by decide +kernel, rfl, by decide +kernel, by decide +kernel⟩
abbrev sPileB : Stmt := top 52
theorem scPileB : FnScope ["rule", "choices"] ["rule", "choices"] (defScope sPileB) := ⟨rfl, rfl, rfl, by decide +kernel, rfl, by decide +kernel, by decide +kernel⟩
abbrev sAccR : Stmt := top 61
theorem scAccR : FnScope ["rule", "told", "certificate", "plate", "choices", "days", "used"] ["rule", "told", "certificate"] (defScope sAccR) := ⟨rfl, rfl, rfl, by decide +kernel, rfl, by decide +kernel, by decide +kernel⟩
abbrev sAcc : Stmt := top 69
theorem scAcc : FnScope ["claim", "certificate", "rule", "check"] ["claim", "certificate"] (defScope sAcc) := ⟨rfl, rfl, rfl, by decide +kernel, rfl, by decide +kernel, by decide +kernel⟩

def emptyD : PyData → Bool
  | .tuple [] => true
  | _ => false
def spEmpty : Sp := fun vs H Q _ => ∃ v d, vs = [v] ∧ Dat H v d ∧ ∀ H', Ex H H' → Q (.bl (emptyD d)) H'
def spPileB (C CD CP : Addr) : Sp := fun vs H Q _ => ∃ (r p q dx : Addr) (v : V) (rows : List Str) (a b : Int) (ds : List V) (d : PyData), vs = [.ref r, v] ∧ RuleK H C CD r p q dx rows a b ds (dayList rows) ∧ RowsM rows ∧ Dat H v d ∧ (itemsD d).length ≤ 1000 ∧
  ((choicesOut (dayList rows) a b d).isNone = true → ∀ x l dx cs ks H', d = intsD ks → Ex H H' → PileK H' CP x r l dx cs (runs (dayList rows) [st0 a b] ks) → Q (.ref x) H') ∧ ((choicesOut (dayList rows) a b d).isNone = false → ∀ H', Ex H H' → Q .non H')
def spAccR (C CD : Addr) : Sp := fun vs H Q _ => ∃ (r p q dx tt : Addr) (vp vc vb vt : V) (rows : List Str) (a b : Int) (ds : List V) (dp dc db dt : PyData), vs = [.ref r, .ref tt, vt] ∧ RuleK H C CD r p q dx rows a b ds (dayList rows) ∧ RowsM rows ∧
  Rd H tt (.tup [vp, vc, vb]) ∧ Dat H vp dp ∧ Dat H vc dc ∧ Dat H vb db ∧ Dat H vt dt ∧ Ten dc ∧ ∀ H', Ex H H' → Q (.bl (restedB (dayList rows) a b dp dc db && emptyD dt)) H'
def spAcc : Sp := fun vs H Q _ => ∃ (cl : Addr) (vp vc vb vt : V) (rows : List Str) (a b : Int) (dp dc db dt : PyData), vs = [.ref cl, vt] ∧ RowsM rows ∧ HeadW (rows.getD 0 "") a b ∧
  Rd H cl (.tup [.str "rested", .str (Txt.join "\n" rows), vp, vc, vb]) ∧ Dat H vp dp ∧ Dat H vc dc ∧ Dat H vb db ∧ Dat H vt dt ∧ Ten dc ∧ ∀ H', Ex H H' → Q (.bl (restedB (dayList rows) a b dp dc db && emptyD dt)) H'
theorem bad_seven {dd : List DayD} : ∀ {ds : List PyData} {ss : List PSt} {n i : Nat} {d : PyData}, badAt dd ss ds n = some (i, d) → i = 7
  | [], _, _, _, _, h => nomatch h
  | x :: r, ss, n, i, d, h => by
    unfold badAt at h
    split at h
    · exact bad_seven h
    · exact (congrArg Prod.fst (Option.some.inj h)).symm
theorem choices_seven {dd : List DayD} {a b : Int} {x d : PyData} {i : Nat} (h : choicesOut dd a b x = some (i, d)) : i = 7 := by
  unfold choicesOut at h
  split at h
  · exact bad_seven h
  · exact (congrArg Prod.fst (Option.some.inj h)).symm
theorem cut_neg {xs : List V} {n : Int} (h : 1 ≤ n) (h2 : n.toNat ≤ xs.length) : cutV xs (some (-n)) none = xs.drop (xs.length - n.toNat) := by
  obtain ⟨m, rfl⟩ := Int.eq_ofNat_of_zero_le (show 0 ≤ n by omega)
  obtain ⟨k, rfl⟩ : ∃ k, m = k + 1 := ⟨m - 1, by omega⟩
  have e : HT.sIx xs.length 0 (some (-((k + 1 : Nat) : Int))) = xs.length - (k + 1) := by
    rw [Int.toNat_natCast] at h2
    show (if (-((k + 1 : Nat) : Int)) < 0 then ((-((k + 1 : Nat) : Int)) + (xs.length : Int)).toNat else min (-((k + 1 : Nat) : Int)).toNat xs.length) = _
    rw [if_pos (by omega)]
    omega
  unfold cutV
  rw [e, HT.sIx_none, Int.toNat_natCast, List.take_of_length_le (by rw [List.length_drop]; omega)]
section
variable {K : PySem.W.Frag} {σ : L2.St} {H : Hp} {tl te : TE} {tt : TT} {g : TG} {vs : List Nat} {α : Type}
/-- a comprehension over a tuple that an expression makes -/
theorem er_lcDT (src : List α) (da db : α → PyData) (F : α → Bool) (nb : ∀ s ∈ src, noL (db s) = true) (h : ∀ H1, Ex H H1 → ∀ Q : VK, (∀ a xs H2, Ex H1 H2 → SqT K H2 a xs → Dats H2 xs (src.map da) → xs.length ≤ 40000 → Q (.ref a) H2) → tl σ H1 Q)
    (step : ∀ (s : α) (x : V) H1, s ∈ src → Ex H H1 → Dat H1 x (da s) → ∃ σ2, (∀ R : L2.St → Hp → Prop, R σ2 H1 → g x (wipe σ vs) H1 R) ∧ wipe σ2 vs = wipe σ vs ∧ EvT tt σ2 H1 (F s) ∧ (F s = true → EvR te σ2 H1 (fun H' v => Dat H' v (db s)))) :
    EvR (tLc (iTup K tl) g tt te vs) σ H (fun H' v => ∃ l ys, v = .ref l ∧ H l = none ∧ H' l = some (.lst ys) ∧ Dats H' ys ((src.filter F).map db)) := fun H0 e Q q => h H0 e _ fun a xs H1 e1 hx hd hz => ⟨a, rfl, ⟨xs, hx⟩, fun Dl hD => by
  have sl := hd.len
  rw [List.length_map] at sl
  exact lc_tup (xs := xs) (fun i H' => Ex H1 H' ∧ ∃ acc, H' Dl = some (.lst acc) ∧ acc.length ≤ i ∧ Dats H' acc (((src.take i).filter F).map db)) ⟨Ex.new hD, [], upd_same, Nat.le_refl _, .nil⟩ (fun i H' _ p => ex_t p.1 hx)
    (lc_core (H := H1) hD (Ex.refl H1) nb hd hz fun s x H2 ms e2 dx => step s x H2 ms ((e.trans e1).trans e2) dx)
    (fun H' p => by
      obtain ⟨p2, acc, p3, _, p4⟩ := p
      rw [sl, List.take_length] at p4
      exact q (.ref Dl) H' (e1.trans p2) ⟨Dl, acc, rfl, fresh_back (e.trans e1) hD, p3, p4⟩)⟩
/-- t[-n:] of a tuple that is told as data -/
theorem er_last {ta tn : TE} {ds : List PyData} {n : Int} (ha : EvR ta σ H (fun H' v => Dat H' v (.tuple ds))) (hn : Ev tn σ H (.int n)) (h1 : 1 ≤ n) (h2 : n.toNat ≤ ds.length) :
    EvR (tSl (rSlA K) ta (tPart (tUn (rU fun i => .int (-i)) tn)) tNoPart) σ H (fun H' v => Dat H' v (.tuple (ds.drop (ds.length - n.toNat)))) := fun H1 e Q q =>
  ha H1 e _ fun v H2 e2 hv => by
    obtain ⟨t, xs, rfl, ht, hx⟩ := tup_datX hv
    have xl := Dats.len hx
    exact (eo_some (ev_un hn ru_neg) : EvO (tPart (tUn (rU fun i => .int (-i)) tn)) σ H (some (-n))) H2 (e.trans e2) _ fun H3 e3 => (eo_none : EvO tNoPart σ H none) H3 ((e.trans e2).trans e3) _ fun H4 e4 => by
      refine ⟨t, xs, rfl, .inl (ex_rd (e3.trans e4) ht), fun z => ?_, fun z p hp => ?_⟩
      · have whole : cutV xs (some (-n)) none = xs := by
          unfold cutV
          rw [z.1, z.2, Nat.sub_zero, List.drop_zero, List.take_of_length_le (Nat.le_refl _)]
        have w2 : ds.drop (ds.length - n.toNat) = ds := by
          rw [cut_neg h1 (by omega)] at whole
          have l := congrArg List.length whole
          rw [List.length_drop] at l
          have : ds.length - n.toNat = 0 := by omega
          rw [this, List.drop_zero]
        rw [w2] at q
        exact q _ _ ((e2.trans e3).trans e4) (Dat.mono (e3.trans e4) hv)
      · refine q _ _ (((e2.trans e3).trans e4).trans (Ex.new hp)) (.tup (.inl upd_same) ?_)
        rw [cut_neg h1 (by omega), xl]
        exact dats_drop _ (Dats.mono ((e3.trans e4).trans (Ex.new hp)) hx)
end
theorem er_go9 {te : TE} {σ : L2.St} {H : Hp} {R : Hp → V → Prop} {Q : VK} (h : EvR te σ H R) (k : ∀ v H1, Ex H H1 → R H1 v → Q v H1) : te σ H Q := h H (Ex.refl H) Q k
theorem q_retNot {K : PySem.W.Frag} {tl : TE} {σ : L2.St} {H : Hp} {D : Ends} {R : Hp → V → Prop} (h : EvR tl σ H R) (k : ∀ v H1, Ex H H1 → R H1 v → ∃ b, TruV K v H1 b ∧ D.rt (.bl (!b)) H1) : tRet (tNotT K tl) D σ H := h H (Ex.refl H) _ k
theorem rest_filter (us : List (List Int)) (p n : Int) : ((us.drop (us.length - n.toNat)).filter fun u => inV (.int p) (u.map V.int)).isEmpty = restEnd us p n := by
  unfold restEnd
  induction us.drop (us.length - n.toNat) with
  | nil => rfl
  | cons u r ih =>
    rw [List.all_cons, ← ih]
    cases h : inV (.int p) (u.map V.int) with
    | true => rw [List.filter_cons_of_pos (by exact h)]; rfl
    | false => rw [List.filter_cons_of_neg (by rw [h]; decide)]; rfl
section
variable {P : Program} {w : World} {K : PySem.W.Frag} {mg : Str → Option Value} {base : Heap} {c ff : Nat → Addr} {fdd : Nat → FuncData} {C CD CP f fLP fIW fEM fPB fCO fAR gr gp ga fI fR pR CR dC : Addr} {fd dLP dIW dEM dPB dCO dAR dr dp da dR : FuncData} {mc : Value} {es : Array DictEntry} {nn j : Nat}
theorem ok_empty (F : Fun K "is_empty" "is_empty" sIsEmpty f fd) (B : Blt mg) : FnOk P w K mg base CX0 (j + 1) f fd ["certificate"] spEmpty := by
  refine F.ok scIsEmpty (fun vs H Q E h => ?_) (fun cdv A outer s H vs Q E hr h => ?_)
  · obtain ⟨v, d, rfl, _⟩ := h
    rfl
  · obtain ⟨v, d, rfl, hd, k⟩ := h
    refine ⟨_, (pss_one (ps_ret (pe_and (pe_callB call_isi (by rfl) B.isi bIsi (pa_cons (pv 0) (pa_cons (pe_bltn (v := .ty "tuple") (by rfl) B.tuple bTuple rfl) pa_nil))) (pe_one (pe_cmpR op_eq (pe_callB call_len_seq (by rfl) B.len PySem.boot_len (pa_cons (pv 0) pa_nil)) pe_int (nomark _)))))), ?_⟩
    have tt := ev_isD (K := K) (σ := [some v]) (H := H) (te := tVar 0) (tb := tC (.ty "tuple")) (ev_var rfl) ev_c hd known_tuple
    rw [isTup_of] at tt
    refine s_ret (v := .bl (emptyD d)) (ev_is (ev_andV (a := isTupD d) (b := emptyD d) tt (fun z => ?_)) (by cases d <;> rfl)) fun H1 e1 => k H1 e1
    obtain ⟨its, rfl⟩ := isTupD_tup z
    obtain ⟨t, xs, rfl, ht, hx⟩ := tup_datX hd
    have xl := Dats.len hx
    refine ev_is (ev_op (ev_lenQ (eq_of (ev_var rfl) ht)) ev_c (rv_eq rfl)) ?_
    rw [xl]
    cases its with
    | nil => rfl
    | cons x r =>
      show V.bl (decide (V.int (((x :: r).length : Nat) : Int) = V.int 0)) = V.bl false
      rw [decide_eq_false fun q => by have := V.int.inj q; rw [List.length_cons] at this; omega]
theorem ok_pileB (E0' : Errs K mg c ff fdd) (LPD : Cl8X P w K mg base "led_pile" fLP dLP ["rule", "choices"] 9 (spLedPileD C CD CP c)) (F : Fun K "pile_behind" "pile_behind" sPileB f fd) : FnOk P w K mg base CX0 10 f fd ["rule", "choices"] (spPileB C CD CP) := by
  refine F.ok scPileB (fun vs H Q E h => ?_) (fun cdv A outer s H vs Q E hr h => ?_)
  · obtain ⟨r, p, q, dx, v, rows, a, b, ds, d, rfl, _⟩ := h
    rfl
  · obtain ⟨r, p, q, dx, v, rows, a, b, ds, d, rfl, hk, hR, hd, hz, k1, k2⟩ := h
    refine ⟨_, (pss_one (ps_try_only rfl rfl ⟨rfl, by decide, .inl E0'.g7⟩ takes0 (fun W pn xe tk _ => pss_one (ps_ret (show PE ((cxOf CX0 P w K mg base ["rule", "choices"] "pile_behind" (defScope sPileB) f cdv A outer s H E).nox.tr pn xe) _ (tCall (spLedPileD C CD CP c) [] (fun cls d H => ∀ σ, W cls d σ H) (tCons (tVar 0) (tCons (tVar 1) tNil))) from pe_call (X := ((cxOf CX0 P w K mg base ["rule", "choices"] "pile_behind" (defScope sPileB) f cdv A outer s H E).nox.tr pn xe)) LPD.G hr (by rfl) LPD.m LPD.k LPD.b .nil (passes_call tk fun _ _ _ _ z => z _) (pa_cons (pv 0) (pa_cons (pv 1) pa_nil))))) (fun a oe cls d pn _ _ => pss_one (ps_ret pe_non)))), ?_⟩
    refine ⟨.ref r, rfl, v, rfl, .ref r, v, none, r, p, q, dx, rows, a, b, ds, d, rfl, ⟨rfl, hk, hR⟩, hd, hz, ?_⟩
    have eo : ledOut none (dayList rows) a b d = choicesOut (dayList rows) a b d := rfl
    rw [eo]
    cases ho : choicesOut (dayList rows) a b d with
    | none =>
      rw [ho] at k1
      exact fun z H' e' ⟨x, l, dx, cs, ks, ez, ed, hp⟩ => by
        rw [ez]
        exact k1 rfl x l dx cs ks H' ed e' hp
    | some od =>
      obtain ⟨i, d'⟩ := od
      obtain rfl := choices_seven ho
      rw [ho] at k2
      exact fun a' v' H' e' na hd' ha' σ' => ⟨true, E0'.e77, fun _ a9 na9 => k2 rfl H' e', fun z => nomatch z⟩
theorem ok_accR (B : Blt mg) (R : Ru K C) (Y : RuP K C gr gp ga dr dp da) (IW : Cl8 P w K mg base "integer_within" fIW dIW ["value", "least", "most"] 10 spWithD) (EM : Cl8 P w K mg base "is_empty" fEM dEM ["certificate"] 10 spEmpty) (PB : Cl8 P w K mg base "pile_behind" fPB dPB ["rule", "choices"] 10 (spPileB C CD CP))
    (COU : Cl8X P w K mg base "course" fCO dCO ["rule", "choices"] 9 (spLedD C CD c courseOf)) (F : Fun K "accepts_rested" "accepts_rested" sAccR f fd) : FnOk P w K mg base CX0 11 f fd ["rule", "told", "certificate"] (spAccR C CD) := by
  have G2 : FnOk P w K mg base CX0 1 gp dp ["self"] (spAsk C (fun _ _ a _ => .int a)) := ok_Plates (j := 0) Y.Fp B R
  obtain ⟨pp, Pp⟩ := Y.pp
  refine F.ok scAccR (fun vs H Q E h => ?_) (fun cdv A outer s H vs Q E hr h => ?_)
  · obtain ⟨r, p, q, dx, tt, vp, vc, vb, vt, rows, a, b, ds, dp, dc, db, dt, rfl, _⟩ := h
    rfl
  · obtain ⟨r, p, q, dx, tt, vp, vc, vb, vt, rows, a, b, ds, dp, dc, db, dt, rfl, hk, hR, htt, hvp, hvc, hvb, hvt, ten, k⟩ := h
    have hr2 := hr.mono (j := 2) (by decide)
    have hr9 := hr.mono (j := 9) (by decide)
    refine ⟨_, (pss_cons (ps_if (L2.PW.pt (pw_or (pt_cmpR op_ne (pe_callB call_len_seq (by rfl) B.len PySem.boot_len (pa_cons (pv 1) pa_nil)) pe_int (nomark _)) (pw_or (pt_not (pt_val (pe_call IW.G hr (by rfl) IW.m IW.k IW.b .nil pass0 (pa_cons (pe_ix ix_tup (pv 1) pe_int (fun _ _ => rfl)) (pa_cons pe_int (pa_cons (pe_op op_sub (pe_prop (pv 0) R.cl Pp G2 hr2 Y.bp .nil pass0 (by rfl)) pe_int) pa_nil)))))) (pw_or1 (pt_not (pt_val (pe_call EM.G hr (by rfl) EM.m EM.k EM.b .nil pass0 (pa_cons (pv 2) pa_nil)))))))) (pss_one (ps_ret pe_bl)) pss_nil)
      (pss_cons (ps_asg (pv 1) (pg_tup rfl (pgs_cons (pg_name (i := 3) scAccR.nd rfl (.inr rfl)) (pgs_cons (pg_name (i := 4) scAccR.nd rfl (.inl rfl)) (pgs_cons (pg_name (i := 5) scAccR.nd rfl (.inl rfl)) pgs_nil)))))
      (pss_cons (ps_if (L2.PW.pt (pw_or (pt_cmpR op_isN (pe_call PB.G hr (by rfl) PB.m PB.k PB.b .nil pass0 (pa_cons (pv 0) (pa_cons (pv 4) pa_nil))) pe_non (nomark _)) (pw_or1 (pt_not (pt_val (pe_call IW.G hr (by rfl) IW.m IW.k IW.b .nil pass0 (pa_cons (pv 5) (pa_cons pe_int (pa_cons (pe_callB call_len_seq (by rfl) B.len PySem.boot_len (pa_cons (pv 4) pa_nil)) pa_nil))))))))) (pss_one (ps_ret pe_bl)) pss_nil)
      (pss_one (ps_ret (pe_notT (pe_lc (own := [("used", 6)]) (g := gName 6) rfl scAccR.nd (pi_tup (pe_slice sl_tupA (pe_call COU.G hr9 (by rfl) COU.m COU.k COU.b .nil (E := E0) passL (pa_cons (pv 0) (pa_cons (pv 4) pa_nil))) (po_some (pe_un un_neg (pv 5))) po_none)) (blkOk_by (N := ["rule", "told", "certificate", "plate", "choices", "days", "used"]) (sc := defScope sAccR) (by decide +kernel)) (fun _ _ _ _ _ => (pg_name (i := 6) scAccR.nd rfl (Or.inl rfl))) (fun _ _ _ _ _ => pts_one (as_ptK (t' := tTest (tOp (rIn K false) (tVar 3) (tVar 6))) (pt_cmpR op_in_seq (pv 3) (pv 6) rfl) rfl)) (fun _ _ _ _ _ => (pv 6))))))))), ?_⟩
    obtain ⟨g1, hg1⟩ : ∃ g1, g1 = (choicesOut (dayList rows) a b dc).isNone := ⟨_, rfl⟩
    unfold restedB at k
    rw [← hg1] at k
    obtain ⟨g2, hg2⟩ : ∃ g2, g2 = wholeD 0 (a - 1) dp := ⟨_, rfl⟩
    obtain ⟨g4, hg4⟩ : ∃ g4, g4 = emptyD dt := ⟨_, rfl⟩
    rw [← hg2, ← hg4] at k
    refine q_when (b := !(g2 && g4)) (et_is (et_or (a := false) (b := !(g2 && g4)) (et_is (et_test (ev_op (ev_lenQ (eq_of (ev_var rfl) htt)) ev_c (rv_ne rfl))) rfl) (fun _ => et_is (et_or (a := !g2) (b := !g4)
      (et_not (et_B (ev_call (vs := [vp, .int 0, .int (a - 1)]) (z := .bl g2) (ea_cons (ev_ixQ (i := 0) (eq_of (ev_var rfl) htt) ev_c (atI_nat (j := 0) rfl)) (ea_cons ev_c (ea_cons (ev_op (ev_ask (g := fun _ _ a _ => .int a) (ev_var rfl) hk) ev_c rv_I0) ea_nil))) fun H4 e4 Q4 q4 _ => ⟨vp, dp, 0, a - 1, rfl, Dat.mono e4 hvp, fun H5 e5 => by rw [← hg2]; exact q4 H5 e5⟩)))
      (fun _ => et_not (et_B (ev_call (z := .bl g4) (ea_cons (ev_var rfl) ea_nil) fun H4 e4 Q4 q4 _ => ⟨vt, dt, rfl, Dat.mono e4 hvt, fun H5 e5 => by rw [← hg4]; exact q4 H5 e5⟩)))) (by cases g2 <;> cases g4 <;> rfl))) (by cases g2 <;> cases g4 <;> rfl)) (fun z H1 e1 => ?_) (fun z H1 e1 => ?_)
    · have e : ((g1 && (g2 && (wholeD 1 ((itemsD dc).length : Int) db && restEnd (takes (dayList rows) [st0 a b] ((itemsD dc).map intD)) (intD dp) (intD db)))) && g4) = false := by
        cases g1 <;> cases g2 <;> cases g4 <;> simp_all
      rw [e] at k
      exact s_ret ev_c fun H2 e2 => k H2 (e1.trans e2)
    have z1 : g2 = true ∧ g4 = true := by cases g2 <;> cases g4 <;> simp_all
    rw [z1.1, z1.2, Bool.true_and, Bool.and_true] at k
    obtain ⟨zp, rfl, zp0, zp1⟩ := wholeD_int (hg2.symm.trans z1.1)
    obtain rfl := int_dat hvp
    -- plate, choices, days
    refine (?_ : tSeq _ _ _ _ _)
    refine ⟨.ref tt, rfl, tt, _, rfl, .inl (ex_rd e1 htt), rfl, _, _, rfl, _, _, rfl, _, _, rfl, rfl, ?_⟩
    try dsimp only [List.set_cons_zero, List.set_cons_succ]
    have len1000 : (itemsD dc).length ≤ 1000 := Nat.le_trans ten (by decide)
    have pbE : ∀ {H9 : Hp} {σ9 : L2.St} {E9 : XK}, Ex H H9 → σ9[0]? = some (some (.ref r)) → σ9[4]? = some (some vc) → Ev (tOp (fun x y H Q => y = V.non ∧ Q (V.bl (decide (x = V.non))) H) (tCall (spPileB C CD CP) [] E9 (tCons (tVar 0) (tCons (tVar 4) tNil))) (tC V.non)) σ9 H9 (.bl (!g1)) := fun {H9 σ9 E9} e9 h0 h4 H10 e10 Q10 q10 =>
      ⟨.ref r, h0, vc, h4, r, p, q, dx, vc, rows, a, b, ds, dc, rfl, hk.ext (e9.trans e10), hR, Dat.mono (e9.trans e10) hvc, len1000,
        fun gg x l dx' cs ks H' _ e' _ => ⟨rfl, by rw [hg1, gg] at q10; exact q10 H' e'⟩, fun gg H' e' => ⟨rfl, by rw [hg1, gg] at q10; exact q10 H' e'⟩⟩
    cases hg : g1 with
    | false =>
      rw [hg] at hg1 k
      rw [hg] at pbE
      refine q_when (b := true) (et_is (et_or (a := true) (b := true) (et_is (et_test (pbE e1 rfl rfl)) rfl) (fun z => nomatch z)) rfl) (fun _ H2 e2 => ?_) (fun z => nomatch z)
      exact s_ret ev_c fun H3 e3 => k H3 ((e1.trans e2).trans e3)
    | true =>
      rw [hg] at hg1 k
      rw [hg] at pbE
      rw [Bool.true_and] at k
      obtain ⟨ks, rfl, hl, e1', e2'⟩ := choices_ints hg1.symm
      rw [e1', e2'] at k
      obtain ⟨t, rfl, ht⟩ := ints_dat hvc
      have kl : ks.length ≤ 10 := by rw [← e2']; exact ten
      refine q_when (b := !wholeD 1 (ks.length : Int) db) (et_is (et_or (a := false) (b := !wholeD 1 (ks.length : Int) db) (et_is (et_test (pbE e1 rfl rfl)) rfl) (fun _ => et_not (et_B (ev_call (vs := [vb, .int 1, .int (ks.length : Int)]) (z := .bl (wholeD 1 (ks.length : Int) db)) (ea_cons (ev_var rfl) (ea_cons ev_c (ea_cons (ev_is (ev_lenQ (eq_of (ev_var rfl) (ex_rd e1 ht))) (by rw [List.length_map])) ea_nil))) fun H4 e4 Q4 q4 _ => ⟨vb, db, 1, (ks.length : Int), rfl, Dat.mono (e1.trans e4) hvb, fun H5 e5 => q4 H5 e5⟩)))) rfl) (fun z H2 e2 => ?_) (fun z H2 e2 => ?_)
      · rw [show wholeD 1 (ks.length : Int) db = false by simpa using z, Bool.false_and] at k
        exact s_ret ev_c fun H3 e3 => k H3 ((e1.trans e2).trans e3)
      have z2 : wholeD 1 (ks.length : Int) db = true := by simpa using z
      rw [z2, Bool.true_and] at k
      obtain ⟨n, rfl, n1, n2⟩ := wholeD_int z2
      obtain rfl := int_dat hvb
      have e02 := e1.trans e2
      have k' : ∀ H', Ex H H' → Q (.bl (restEnd (takes (dayList rows) [st0 a b] ks) zp n)) H' := k
      obtain ⟨us, hus⟩ : ∃ us, us = takes (dayList rows) [st0 a b] ks := ⟨_, rfl⟩
      have usl : us.length = ks.length := by rw [hus]; exact takes_len _ _ _
      rw [← hus] at k'
      have couE : ∀ {H9 : Hp} {σ9 : L2.St} {E9 : XK}, Ex H H9 → σ9[0]? = some (some (.ref r)) → σ9[4]? = some (some (.ref t)) → EvR (tCall (spLedD C CD c courseOf) [] E9 (tCons (tVar 0) (tCons (tVar 4) tNil))) σ9 H9 (fun H' v => Dat H' v (.tuple (us.map intsD))) := fun {H9 σ9 E9} e9 h0 h4 H10 e10 Q10 q10 => by
        refine ⟨.ref r, h0, .ref t, h4, .ref r, .ref t, none, r, p, q, dx, rows, a, b, ds, intsD ks, rfl, ⟨rfl, hk.ext (e9.trans e10), hR⟩, Dat.mono (e9.trans e10) hvc, len1000, ?_⟩
        have eo : ledOut none (dayList rows) a b (intsD ks) = none := by
          show choicesOut (dayList rows) a b (intsD ks) = none
          cases qq : choicesOut (dayList rows) a b (intsD ks) with
          | none => rfl
          | some x => rw [qq] at hg1; cases hg1
        rw [eo]
        exact fun z H' e' ⟨ks', ek, _, hd⟩ => q10 z H' e' (by
          rw [← ints_inj ek] at hd
          rw [hus]
          exact hd)
      refine q_retNot (er_lcDT (K := K) (H := H2) (us.drop (us.length - n.toNat)) intsD intsD (fun u => inV (.int zp) (u.map V.int)) (fun s _ => noL_intsD s)
        (fun H4 e4 Q4 q4 => er_go9 (er_last (K := K) (couE (e02.trans e4) rfl rfl) (ev_var rfl) n1 (by rw [List.length_map]; omega)) fun v H5 e5 hv => ?_)
        (fun u x H4 ms e4 hx => ?_)) fun v H5 e5 ⟨l, ys, ev, nl, hl5, hys⟩ => ?_
      · obtain ⟨tx, xs, rfl, htx, hxs⟩ := tup_datX hv
        rw [List.length_map, ← List.map_drop] at hxs
        exact q4 tx xs H5 e5 (.inl htx) hxs (by rw [Dats.len hxs, List.length_map, List.length_drop]; omega)
      · obtain ⟨q2, rfl, hq⟩ := ints_dat hx
        exact ⟨_, fun Rr hR => hR, rfl, et_test (ev_op (ev_var rfl) (ev_var rfl) (rv_isT (.inl hq) rfl (flat_ints _))), fun _ => er_dvar rfl hx⟩
      · subst ev
        refine ⟨!ys.isEmpty, .inl ⟨ys, sq_of hl5, rfl⟩, ?_⟩
        have yl := Dats.len hys
        rw [List.length_map] at yl
        have : (!!ys.isEmpty) = restEnd us zp n := by
          rw [← rest_filter, Bool.not_not]
          cases ys with
          | nil =>
            have : ((us.drop (us.length - n.toNat)).filter fun u => inV (.int zp) (u.map V.int)) = [] := List.length_eq_zero_iff.mp yl.symm
            rw [this]
            rfl
          | cons y r =>
            cases hf : ((us.drop (us.length - n.toNat)).filter fun u => inV (.int zp) (u.map V.int)) with
            | nil => rw [hf] at yl; simp at yl
            | cons u r' => rfl
        rw [this]
        exact k' H5 (e02.trans e5)
theorem ok_acc (B : Blt mg) (Y : Cl K mg C fI fR pR CR mc dR) (GI : FnR P w K mg base CX0 5 fI (spStar C CD)) (AR : Cl8 P w K mg base "accepts_rested" fAR dAR ["rule", "told", "certificate"] 11 (spAccR C CD)) (KD : KDict K w dC es nn) (mCl : mg "CLAIMS" = some (.ref dC)) (nsC : PySem.W.nsIn K dC "rested" = some (some (.ref fAR))) {CIT : Addr} (mIT : mg "InvalidText" = some (.ref CIT))
    (F : Fun K "accepts" "accepts" sAcc f fd) : FnOk P w K mg base CX0 12 f fd ["claim", "certificate"] spAcc := by
  have FR : FnR P w K mg base CX0 7 fR (spRead C CD) := toR (ok_Read (j := 4) Y.F B Y.M GI Y.mR) Y.b
  refine F.ok scAcc (fun vs H Q E h => ?_) (fun cdv A outer s H vs Q E hr h => ?_)
  · obtain ⟨cl, vp, vc, vb, vt, rows, a, b, dp, dc, db, dt, rfl, _⟩ := h
    rfl
  · obtain ⟨cl, vp, vc, vb, vt, rows, a, b, dp, dc, db, dt, rfl, hR, hw, hcl, hvp, hvc, hvb, hvt, ten, k⟩ := h
    have hr7 := hr.mono (j := 7) (by decide)
    obtain ⟨G, hgd, back⟩ := hR.good hw
    have KC : KDct K w dC "rested" (.ref fAR) := ⟨es, nn, _, KD.at_, KD.lit, nsC, rfl⟩
    refine ⟨_, (pss_cons (ps_if (L2.PW.pt (pw_or (pt_not (pt_val (pe_callB call_isi (by rfl) B.isi bIsi (pa_cons (pv 0) (pa_cons (pe_bltn (v := .ty "tuple") (by rfl) B.tuple bTuple rfl) pa_nil))))) (pw_or (pt_cmpR op_lt (pe_callB call_len_seq (by rfl) B.len PySem.boot_len (pa_cons (pv 0) pa_nil)) pe_int (nomark _)) (pw_or (pt_not (pt_val (pe_callB call_isi (by rfl) B.isi bIsi (pa_cons (pe_ix ix_tup (pv 0) pe_int (fun _ _ => rfl)) (pa_cons (pe_bltn (v := .ty "str") (by rfl) B.str bStr rfl) pa_nil))))) (pw_or1 (pt_cmpR (op_notIn_kd KD) (pe_ix ix_tup (pv 0) pe_int (fun _ _ => rfl)) (pe_glob (v := .ref dC) (by rfl) mCl rfl) rfl)))))) (pss_one (ps_ret pe_bl)) pss_nil)
      (pss_cons (ps_try_only rfl rfl ⟨rfl, by decide, .inl mIT⟩ takes0 (fun W pn xe tk _ => pss_one (ps_set (X := ((cxOf CX0 P w K mg base ["claim", "certificate", "rule", "check"] "accepts" (defScope sAcc) f cdv A outer s H E).nox.tr pn xe)) (i := 2) scAcc.nd rfl (.inl rfl) (show PE ((cxOf CX0 P w K mg base ["claim", "certificate", "rule", "check"] "accepts" (defScope sAcc) f cdv A outer s H E).nox.tr pn xe) _ (ClX.tCMeth C (spRead C CD) E0 (tC (.ref C)) (tCons (tOp (rIxT K) (tVar 0) (tC (.int 1))) tNil)) from ClX.pe_cmeth (X := ((cxOf CX0 P w K mg base ["claim", "certificate", "rule", "check"] "accepts" (defScope sAcc) f cdv A outer s H E).nox.tr pn xe)) (pe_glob (v := .ref C) (by rfl) Y.m rfl) Y.rd Y.cm FR hr7 pass0 (pa_cons (pe_ix ix_tup (pv 0) pe_int (fun _ _ => rfl)) pa_nil)))) (fun a oe cls d pn _ _ => pss_one (ps_ret pe_bl)))
      (pss_cons (ps_set (i := 3) scAcc.nd rfl (.inl rfl) (pe_ix ix_kdict (pe_glob (v := .ref dC) (by rfl) mCl rfl) (pe_ix ix_tup (pv 0) pe_int (fun _ _ => rfl)) (fun _ _ => rfl)))
      (pss_one (ps_ret (pe_callL (i := 3) AR.G hr rfl (.inl rfl) AR.k AR.b .nil pass0 (pa_cons (pv 2) (pa_cons (pe_slice sl_tupA (pv 0) (po_some pe_int) po_none) (pa_cons (pv 1) pa_nil))))))))), ?_⟩
    have ix : ∀ {H9 : Hp} {σ9 : L2.St} {i : Nat} {v : V}, Ex H H9 → σ9[0]? = some (some (.ref cl)) → ([V.str "rested", .str (Txt.join "\n" rows), vp, vc, vb] : List V)[i]? = some v → Ev (tOp (rIxT K) (tVar 0) (tC (.int (i : Int)))) σ9 H9 v := fun e9 h hv => ev_ixQ (eq_of (ev_var h) (ex_rd e9 hcl)) ev_c (atI_nat hv)
    have tupT : ∀ {H9 : Hp}, Ex H H9 → TyX K H9 (.ref cl) (.type "tuple") := fun e9 => ty_tup (ex_rd e9 hcl)
    refine q_when (b := false) (et_is (et_or (a := false) (b := false) (et_is (et_not (et_B (ev_isi (ev_var rfl) ev_c (.ty _) (fun H1 e1 => tupT e1) kit_tuple))) rfl) (fun _ => et_or (a := false) (b := false) (et_is (et_test (ev_op (ev_lenQ (eq_of (ev_var rfl) hcl)) ev_c rv_I0)) rfl)
      (fun _ => et_or (a := false) (b := false) (et_is (et_not (et_B (ev_isi (ix (i := 0) (Ex.refl H) rfl rfl) ev_c (.ty _) (fun _ _ => .base (.str _)) kit_str))) rfl) (fun _ => et_is (et_test (ev_op (ix (i := 0) (Ex.refl H) rfl rfl) ev_c (fun H1 e1 Q1 q1 => ⟨"rested", _, rfl, rfl, nsC, q1 H1 (Ex.refl H1)⟩))) rfl)))) rfl) (fun z => nomatch z) fun _ H1 e1 => ?_
    -- the rule
    refine (?_ : tSeq _ _ _ _ _)
    refine ⟨rfl, (ix (i := 1) e1 rfl rfl) H1 (Ex.refl H1) _ fun H2 e2 => ⟨Txt.join "\n" rows, a, b, rfl, G.joined, by rw [back]; exact G, ?_⟩⟩
    rw [back]
    intro x H3 nx e3 rx
    obtain ⟨dxr, pp, qq, ds, hk⟩ := rx.toK G hgd
    have e03 := (e1.trans e2).trans e3
    try dsimp only [List.set_cons_zero, List.set_cons_succ]
    -- the function
    refine q_asg (v := .ref fAR) (ev_op ev_c (ix (i := 0) e03 rfl rfl) (fun H4 e4 Q4 q4 => ⟨dC, "rested", .ref fAR, rfl, rfl, KC, q4 H4 (Ex.refl H4)⟩)) fun H4 e4 => ?_
    have e04 := e03.trans e4
    refine ⟨rfl, .ref x, rfl, (eq_is (eq_slice (eq_of (ev_var rfl) (ex_rd e04 hcl)) (eo_some ev_c) eo_none) (cut_from (by decide)) : EvQ _ _ H4 [vp, vc, vb]) H4 (Ex.refl H4) _ fun v H5 e5 ⟨tt, ev, htt⟩ => ⟨vt, rfl, ?_⟩⟩
    subst ev
    have e05 := e04.trans e5
    exact ⟨x, pp, qq, dxr, tt, vp, vc, vb, vt, rows, a, b, ds, dp, dc, db, dt, rfl, (hk.ext e4).ext e5, hR, htt, Dat.mono e05 hvp, Dat.mono e05 hvc, Dat.mono e05 hvb, Dat.mono e05 hvt, ten, fun H6 e6 => k H6 (e05.trans e6)⟩
end
end PW
namespace PW
open PySem PySem.Spec PyProof.Rows L2 Evl
/-! ### right -/
abbrev sRight : Stmt := top 91
theorem scRight : FnScope ["_law_spring_here", "_law_heads", "_law_rows_now", "_law_page", "_law_many", "_law_turn", "_law_lots", "_law_spot", "_law_count", "_law_some", "_law_bound", "_law_thing", "_law_due", "_law_said"] ["_law_spring_here"] (defScope sRight) := ⟨rfl, rfl, rfl, by decide +kernel, rfl, by decide +kernel, by decide +kernel⟩

theorem bRepr9 : bootBuiltins "repr" = some (.builtin "repr") := by decide +kernel
def spRight : Sp := fun vs H Q _ => ∃ p : Addr, vs = [.ref p] ∧ SpringAt H p ∧ ∀ H', But p H H' → Q (.bl true) H'
def headsL : List Str := ["plates 3 away 1", "plates 3 away 2", "plates 4 away 1", "plates 4 away 2"]
theorem headsL_ok : headsL.all (fun h => decide (h ∈ headsM)) = true := by decide +kernel
def showsB9 (d : PyData) : Bool := d.showable && (decide (d.shown.length ≤ sizeLine) && decide (d.depth ≤ 40))
theorem noTab_ok : noTabD.all (fun d => showsB9 d && (decide (d.shown = "()") == emptyD d)) = true := by decide +kernel
theorem bools_ok : ([true, false] : List Bool).all (fun b => showsB9 (.list [.bool b, .bool b])) = true := by decide +kernel
theorem q_asgP {P : V → Hp → Prop} {i : Nat} {te : TE} {tz : TS} {σ : L2.St} {H : Hp} {D : Ends} (h : ∀ Q : VK, (∀ v H1, P v H1 → Q v H1) → te σ H Q) (k : ∀ v H1, P v H1 → tz D (σ.set i (some v)) H1) : tSeq (tAsg te (gName i)) tz D σ H := h _ k
theorem D1.dat {p : Addr} {d : PyData} {H : Hp} {v : V} (h : D1 p d H v) : Dat H v d := Dat.mono (fun b o e => by
  unfold hide at e
  split at e
  · cases e
  · exact e) h
theorem shows9 {d : PyData} (h : showsB9 d = true) : d.showable = true ∧ d.shown.length ≤ sizeLine ∧ d.depth ≤ 40 := by
  unfold showsB9 at h
  simp only [Bool.and_eq_true, decide_eq_true_eq] at h
  exact ⟨h.1, h.2.1, h.2.2⟩
/-- a number, or nothing, or a text: the same in any heap -/
def Flat9 (v : V) : Prop := ∃ d, ∀ H, Dat H v d
section
variable {P : Program} {w : World} {K : PySem.W.Frag} {mg : Str → Option Value} {base : Heap} {f fD fO fLT fSO fQE fBL fNT fDR fHE fAC : Addr} {fd dD dO dLT dSO dQE dBL dNT dDR dHE dAC : FuncData}
theorem ok_right (F : Fun K "_law_right" "_law_right" sRight f fd) (B : Blt mg) (W : Drw K mg fD fO dD dO) (sys : (base.get? sysModules).isSome = true)
    (LT : Cl8 P w K mg base "_law_late_rows" fLT dLT ["_law_spring_here", "_law_heads"] 16 spLate) (SO : Cl8 P w K mg base "_law_some_choices" fSO dSO ["_law_spring_here", "_law_rows_now", "_law_most_now"] 16 spSome)
    (QE : Cl8 P w K mg base "_law_quiet_end" fQE dQE ["_law_rows_now", "_law_spot", "_law_lots"] 16 spQuiet) (BL : Cl8 P w K mg base "_law_bent_lots" fBL dBL ["_law_spring_here", "_law_lots"] 16 spBentL) (NT : Cl8 P w K mg base "_law_no_table" fNT dNT ["_law_spring_here"] 16 spNoTab)
    (DR : Cl8 P w K mg base "_law_due_rested" fDR dDR ["_law_rows_now", "_law_spot", "_law_lots", "_law_bound"] 16 spDueR) (HE : Cl8 P w K mg base "_law_head" fHE dHE ["_law_rows_now"] 16 (spHead K))
    (ACC : Cl8 P w K mg base "accepts" fAC dAC ["claim", "certificate"] 12 spAcc) (ACCk : KBinds K dAC ["claim", "certificate"] ["certificate", "claim"] g2 g2V) :
    FnG P w K mg base CX0 17 f fd ["_law_spring_here"] spRight := by
  have GD : FnOk P w K mg base CX0 16 fD dD ["_law_spring_here", "_law_size"] spDraw := ok_draw W.D B
  have GO : FnOk P w K mg base CX0 16 fO dO ["_law_spring_here", "_law_menu"] (spOf K) := ok_of W.O B W.D W.bD W.mD
  refine okG F scRight (fun vs H Q E h => ?_) (fun cdv A outer s H vs Q E' st hr h => ?_)
  · obtain ⟨p, rfl, _⟩ := h
    rfl
  · obtain ⟨p, rfl, sp, k⟩ := h
    have hu : A.units + 3 + 64 < cLine := hr.units
    have hu2 := hr.units
    have hr15 := hr.mono (j := 12) (by decide)
    refine ⟨_, (pss_cons (ps_set (i := 1) scRight.nd rfl (.inl rfl) (pe_lst (pa_cons pe_str (pa_cons pe_str (pa_cons pe_str (pa_cons pe_str pa_nil))))))
      (pss_cons (ps_set (i := 2) scRight.nd rfl (.inl rfl) (pe_call LT.G hr (by rfl) LT.m LT.k LT.b .nil pass0 (pa_cons (pv 0) (pa_cons (pv 1) pa_nil))))
      (pss_cons (ps_par (i := 3) (j := 4) rfl scRight.nd rfl rfl (by decide)  rfl rfl (pa_cons (pe_join pe_str (pv 2)) (pa_cons (pe_ix ix_list (pe_call HE.G hr (by rfl) HE.m HE.k HE.b .nil pass0 (pa_cons (pv 2) pa_nil)) pe_int (fun _ _ => rfl)) pa_nil)) (by rfl))
      (pss_cons (ps_for PassesOwn.never rfl (pi_range1 rfl B.range (pa_cons pe_int pa_nil)) (pg_name (i := 5) scRight.nd rfl (Or.inl rfl)) (pss_cons (ps_par (i := 6) (j := 7) rfl scRight.nd rfl rfl (by decide)  rfl rfl (pa_cons (pe_call SO.G hr (by rfl) SO.m SO.k SO.b .nil pass0 (pa_cons (pv 0) (pa_cons (pv 2) (pa_cons pe_int pa_nil)))) (pa_cons (pe_call GD hr (by rfl) W.mD W.D.kp W.bD .nil pass0 (pa_cons (pv 0) (pa_cons (pv 4) pa_nil))) pa_nil)) (by rfl))
      (pss_cons (ps_set (i := 8) scRight.nd rfl (.inl rfl) (pe_call QE.G hr (by rfl) QE.m QE.k QE.b .nil pass0 (pa_cons (pv 2) (pa_cons (pv 7) (pa_cons (pv 6) pa_nil)))))
      (pss_cons (ps_set (i := 9) scRight.nd rfl (.inl rfl) (pe_lst (pa_cons (pv 8) (pa_cons (pv 8) (pa_cons (pv 8) (pa_cons (pe_op op_add (pv 8) pe_int) (pa_cons pe_int (pa_cons pe_int (pa_cons (pe_callB call_len_seq (by rfl) B.len PySem.boot_len (pa_cons (pv 6) pa_nil)) (pa_cons (pe_op op_add (pe_callB call_len_seq (by rfl) B.len PySem.boot_len (pa_cons (pv 6) pa_nil)) pe_int) (pa_cons (pe_un un_neg pe_int) (pa_cons (pe_op op_pow pe_int pe_int) (pa_cons pe_non (pa_cons pe_str pa_nil))))))))))))))
      (pss_cons (ps_set (i := 10) scRight.nd rfl (.inl rfl) (pe_call GO hr (by rfl) W.mO W.O.kp W.bO .nil pass0 (pa_cons (pv 0) (pa_cons (pv 9) pa_nil))))
      (pss_cut (ps_if (pt_cmpR op_gt (pv 5) pe_int (nomark _)) (pss_cons (ps_set (i := 6) scRight.nd rfl (.inl rfl) (pe_call BL.G hr (by rfl) BL.m BL.k BL.b .nil pass0 (pa_cons (pv 0) (pa_cons (pv 6) pa_nil))))
      (pss_one (ps_set (i := 7) scRight.nd rfl (.inl rfl) (pe_call GO hr (by rfl) W.mO W.O.kp W.bO .nil pass0 (pa_cons (pv 0) (pa_cons (pe_lst (pa_cons (pv 7) (pa_cons (pv 7) (pa_cons (pv 7) (pa_cons (pv 7) (pa_cons (pv 4) (pa_cons (pe_un un_neg pe_int) (pa_cons (pe_op op_pow pe_int pe_int) (pa_cons pe_non (pa_cons pe_str (pa_cons (pe_tup (pa_cons (pv 7) pa_nil)) pa_nil))))))))))) pa_nil)))))) pss_nil)
      (pss_cut (ps_if (pt_cmpR op_eq (pv 5) pe_int (nomark _)) (pss_one (ps_set (i := 10) scRight.nd rfl (.inl rfl) (pv 8))) pss_nil)
      (pss_cons (ps_set (i := 11) scRight.nd rfl (.inl rfl) (pe_ifExp (pt_cmpR op_lt (pv 5) pe_int (nomark _)) (pe_tup pa_nil) (pe_call NT.G hr (by rfl) NT.m NT.k NT.b .nil pass0 (pa_cons (pv 0) pa_nil))))
      (pss_cons (ps_set (i := 12) scRight.nd rfl (.inl rfl) (pe_and (pe_call DR.G hr (by rfl) DR.m DR.k DR.b .nil pass0 (pa_cons (pv 2) (pa_cons (pv 7) (pa_cons (pv 6) (pa_cons (pv 10) pa_nil))))) (pe_one (pe_cmpR op_eq (pe_callB (call_reprD st hu2 sys) (by rfl) B.repr bRepr (pa_cons (pv 11) pa_nil)) pe_str (nomark _)))))
      (pss_cons (ps_set (i := 13) scRight.nd rfl (.inl rfl) (pe_tup (pa_cons pe_str (pa_cons (pv 3) (pa_cons (pv 7) (pa_cons (pv 6) (pa_cons (pv 10) pa_nil)))))))
      (pss_one (ps_if (pt_cmpR op_ne (pe_callB (call_reprD st hu2 sys) (by rfl) B.repr bRepr (pa_cons (pe_lst (pa_cons (pe_call ACC.G hr15 (by rfl) ACC.m ACC.k ACC.b .nil pass0 (pa_cons (pv 13) (pa_cons (pv 11) pa_nil))) (pa_cons (pe_callK0 ACC.G hr15 (by rfl) ACC.m ACC.k ACCk pass0 (pk_cons (pv 11) (pk_cons (pv 13) pk_nil))) pa_nil))) pa_nil)) (pe_callB (call_reprD st hu2 sys) (by rfl) B.repr bRepr (pa_cons (pe_op op_rep (pe_lst (pa_cons (pv 12) pa_nil)) pe_int) pa_nil)) (nomark _)) (pss_one (ps_ret pe_bl)) pss_nil))))))))))))
      (pss_one (ps_ret pe_bl)))))), ?_⟩
    -- heads, rows
    refine q_asgL (el_lst (vs := headsL.map V.str) (ea_cons ev_c (ea_cons ev_c (ea_cons ev_c (ea_cons ev_c ea_nil)))) (Nat.le_of_ble_eq_true rfl)) fun lh H1 nlh e1 hlh => ?_
    have s1 := sp.ext e1
    refine q_asgE' ⟨.ref p, rfl, .ref lh, rfl, p, lh, headsL, rfl, s1, hlh, fun h hh => of_decide_eq_true (List.all_eq_true.mp headsL_ok h hh), fun z => sp.some (z ▸ nlh), by decide, by decide, fun r ss H2 b2 hr2 s2 rm l4 => ?_⟩
    obtain ⟨a, b, hw⟩ := rm.headW
    obtain ⟨G, hgd, back⟩ := rm.good hw
    obtain ⟨a2, a10, bb0, bb2⟩ := first_bounds G.head
    have two := rm.two
    have rp := rows_ne s2 hr2
    -- page, many
    refine ⟨⟨_, rfl⟩, .ref r, rfl, _, r, ss, rfl, rfl, .inl (sq_of hr2), G.join, .ref r, rfl, r, ss, a, b, rfl, sq_of hr2, by omega, hw, fun l0 H3 nl0 e3 hl0 => ⟨l0, _, 0, _, rfl, rfl, sq_of hl0, rfl, ⟨_, _, rfl, ?_⟩⟩⟩
    dsimp only [List.set_cons_zero, List.set_cons_succ]
    have b03 : But p H H3 := ((But.of e1).trans b2).trans (But.of e3)
    have s3 := s2.ext e3
    have hr3 := e3 _ _ hr2
    refine q_forR1 (n := 12) (ea_cons ev_c ea_nil) ⟨by decide, by decide⟩
      (fun i σ H' => ∃ y5 y6 y7 y8 y9 y10 y11 y12 y13 : Option V, σ = [some (.ref p), some (.ref lh), some (.ref r), some (.str (Txt.join "\n" ss)), some (.int a), y5, y6, y7, y8, y9, y10, y11, y12, y13] ∧ But p H3 H' ∧ SpringAt H' p)
      (fun H4 e4 => ⟨none, none, none, none, none, none, none, none, none, rfl, But.of e4, s3.ext e4⟩) ?_ (fun σ' H' ⟨_, _, _, _, _, _, _, _, _, _, bt9, _⟩ => s_ret ev_c fun H5 e5 => k H5 ((b03.trans bt9).trans (But.of e5)))
    rintro i σ' H4 hi ⟨y5, y6, y7, y8, y9, y10, y11, y12, y13, rfl, b4, s4⟩
    have hr4 := b4 _ _ rp hr3
    try dsimp only [List.set_cons_zero, List.set_cons_succ]
    -- lots, spot
    refine ⟨.ref p, rfl, .ref r, rfl, p, r, ss, a, b, 8, rfl, s4, hr4, rm, hw, by decide, by decide, fun t ks H5 b5 s5 ht hlet hle => ⟨.ref p, rfl, .int a, rfl, p, a, rfl, by omega, by omega, s5, fun spot H6 sp0 sp1 b6 s6 => ⟨_, _, rfl, ?_⟩⟩⟩
    dsimp only [List.set_cons_zero, List.set_cons_succ]
    have kl : ks.length ≤ 8 := hle
    have ht6 := spring_stay s5 b6 _ _ ht
    have b36 := (b4.trans b5).trans b6
    have hr6 := b36 _ _ rp hr3
    -- count
    refine q_asgE' ⟨.ref r, rfl, .int spot, rfl, .ref t, rfl, r, t, ss, ks, a, b, spot, rfl, hr6, rm, hw, ht6, hlet, by omega, fun m H7 m0 m1 e7 => ?_⟩
    have ht7 := ex_rd e7 ht6
    try dsimp only [List.set_cons_zero, List.set_cons_succ]
    -- some
    refine q_asgL (el_lst (vs := [V.int m, .int m, .int m, .int (m + 1), .int 1, .int 0, .int (ks.length : Int), .int ((ks.length : Int) + 1), .int (-1), .int (10 ^ 30), .non, .str "1"]) (ea_cons (ev_var rfl) (ea_cons (ev_var rfl) (ea_cons (ev_var rfl) (ea_cons (ev_op (ev_var rfl) ev_c rv_I0) (ea_cons ev_c (ea_cons ev_c (ea_cons (ev_is (ev_lenQ (eq_of (ev_var rfl) ht7)) (by rw [List.length_map]))
      (ea_cons (ev_op (ev_is (ev_lenQ (eq_of (ev_var rfl) ht7)) (by rw [List.length_map])) ev_c rv_I0) (ea_cons (ev_un ev_c ru_neg) (ea_cons (ev_op ev_c ev_c (rv_I ⟨by decide, by decide, by decide⟩)) (ea_cons ev_c (ea_cons ev_c ea_nil)))))))))))) (Nat.le_of_ble_eq_true rfl)) fun l9 H8 n9 e8 hl9 => ?_
    have s8 := (s6.ext e7).ext e8
    have l9p : l9 ≠ p := fun z => (s6.ext e7).some (z ▸ n9)
    try dsimp only [List.set_cons_zero, List.set_cons_succ]
    -- bound
    refine q_asgE' ⟨.ref p, rfl, .ref l9, rfl, p, l9, _, rfl, sq_of hl9, l9p, by show 0 < 12; decide, by show 12 < 1000000; decide, s8, fun vb H9 hvb b9 s9 => ?_⟩
    have fvb : Flat9 vb := by
      simp only [List.mem_cons, List.mem_nil_iff, or_false] at hvb
      rcases hvb with rfl | rfl | rfl | rfl | rfl | rfl | rfl | rfl | rfl | rfl | rfl | rfl
      all_goals first
        | exact ⟨.int _, fun _ => .int _⟩
        | exact ⟨.none, fun _ => .non⟩
        | exact ⟨.str _, fun _ => .str _⟩
    have b39 : But p H3 H9 := ((b36.trans (But.of e7)).trans (But.of e8)).trans b9
    have ht9 := spring_stay s8 b9 _ _ (ex_rd e8 ht7)
    try dsimp only [List.set_cons_zero, List.set_cons_succ]
    -- bent
    refine q_cut (M := fun σ' H' => ∃ (vl vs : V) (dl dp : PyData), σ' = [some (.ref p), some (.ref lh), some (.ref r), some (.str (Txt.join "\n" ss)), some (.int a), some (.int (i : Int)), some vl, some vs, some (.int m), some (.ref l9), some vb, y11, y12, y13] ∧ But p H3 H' ∧ SpringAt H' p ∧ D1 p dl H' vl ∧ Ten dl ∧ D1 p dp H' vs) ?_ ?_
    · refine s_when (b := decide ((5 : Int) < (i : Int))) (et_test (ev_op (ev_var rfl) ev_c rv_I0)) (fun _ H10 e10 => ?_) (fun _ H10 e10 => ?_)
      · have s10 := s9.ext e10
        refine q_asgE' ⟨.ref p, rfl, .ref t, rfl, p, t, ks, rfl, s10, ex_rd e10 ht9, kl, fun vl dl H11 b11 s11 hvl ten => ?_⟩
        try dsimp only [List.set_cons_zero, List.set_cons_succ]
        have sI : ∀ {H9' : Hp} {σ9 : L2.St}, σ9[7]? = some (some (.int spot)) → EvD (tVar 7) σ9 p H9' (fun _ => True) := fun h => ed_of (d := .int spot) (fun _ _ _ => er_of (ev_var h) fun _ _ => .int _) trivial
        refine ed_pick (H := H11) (S := fun _ => True) (n := 10) rfl (eds_cons (sI rfl) (eds_cons (sI rfl) (eds_cons (sI rfl) (eds_cons (sI rfl) (eds_cons (ed_of (d := .int a) (fun _ _ _ => er_of (ev_var rfl) fun _ _ => .int _) trivial) (eds_cons (ed_of (d := .int (-1)) (fun _ _ _ => d_neg) trivial)
          (eds_cons (ed_of (d := .int (10 ^ 30)) (fun _ _ _ => er_of (v := .int (10 ^ 30)) (ev_op ev_c ev_c (rv_I ⟨by decide, by decide, by decide⟩)) fun _ _ => .int (10 ^ 30)) trivial) (eds_cons (ed_of (d := .none) (fun _ _ _ => d_non) trivial) (eds_cons (ed_of (d := .str "0") (fun _ _ _ => d_str) trivial)
          (eds_cons (ed_of (d := .tuple [.int spot]) (fun H9 b9 s9 => d_tup (by obtain ⟨l, m, t, z⟩ := s9; rw [z]; simp) (d_cons (er_of (ev_var rfl) fun _ _ => .int _) d_nil) (Nat.le_of_ble_eq_true rfl)) trivial) eds_nil)))))))))) (by decide) (by decide) H11 (But.refl H11) s11 _ fun vx dx H12 b12 s12 hvx _ => ?_
        exact ⟨vl, vx, dl, dx, rfl, ((b39.trans (But.of e10)).trans b11).trans b12, s12, Dat.mono b12.hide hvl, ten, hvx⟩
      · exact ⟨.ref t, .int spot, intsD ks, .int spot, rfl, b39.trans (But.of e10), s9.ext e10, tupD1 (s9.ext e10) (ex_rd e10 ht9), by unfold Ten intsD itemsD; rw [List.length_map]; omega, .int _⟩
    rintro σ' H10 ⟨vl, vs, dl, dp, rfl, b10, s10, hvl, ten, hvs⟩
    try dsimp only [List.set_cons_zero, List.set_cons_succ]
    -- the first turn's bound
    refine q_cut (M := fun σ' H' => ∃ (vb : V), σ' = [some (.ref p), some (.ref lh), some (.ref r), some (.str (Txt.join "\n" ss)), some (.int a), some (.int (i : Int)), some vl, some vs, some (.int m), some (.ref l9), some vb, y11, y12, y13] ∧ Ex H10 H' ∧ Flat9 vb) ?_ ?_
    · refine s_when (b := decide (V.int (i : Int) = V.int 0)) (et_test (ev_op (ev_var rfl) ev_c (rv_eq rfl))) (fun _ H11 e11 => ?_) (fun _ H11 e11 => ⟨vb, rfl, e11, fvb⟩)
      exact s_asg (ev_var rfl) fun H12 e12 => ⟨.int m, rfl, e11.trans e12, ⟨.int m, fun _ => .int m⟩⟩
    rintro σ' H11 ⟨vb', rfl, e11, db, hdb⟩
    have b11 := b10.trans (But.of e11)
    have s11 := s10.ext e11
    try dsimp only [List.set_cons_zero, List.set_cons_succ]
    -- thing
    refine q_asgP (P := fun v H1 => ∃ d, But p H11 H1 ∧ SpringAt H1 p ∧ D1 p d H1 v ∧ d ∈ noTabD) (fun Q9 q9 => ?_) fun vt H12 ⟨dt, b12, s12, hvt, hdt⟩ => ?_
    · refine (et_test (ev_op (ev_var rfl) ev_c rv_I0) : EvT _ _ H11 (decide ((i : Int) < 4))) H11 (Ex.refl H11) _ fun H12 e12 => ?_
      by_cases z : decide ((i : Int) < 4) = true
      · rw [if_pos z]
        refine (d_tup (ds := []) (by obtain ⟨l, m, t, z⟩ := s11.ext e12; rw [z]; simp) d_nil (Nat.zero_le _) : EvR _ _ H12 (D1 p (.tuple []))) H12 (Ex.refl H12) _ fun v H13 e13 hv => ?_
        exact q9 v H13 ⟨.tuple [], But.of (e12.trans e13), (s11.ext e12).ext e13, hv, noTab_all.1.1⟩
      · rw [if_neg z]
        exact ⟨.ref p, rfl, p, rfl, s11.ext e12, fun v d H13 b13 s13 hv hd => q9 v H13 ⟨d, (But.of e12).trans b13, s13, hv, hd⟩⟩
    have b3_12 := b11.trans b12
    have hr12 := b3_12 _ _ rp hr3
    have dl12 : Dat H12 vl dl := D1.dat (p := p) (Dat.mono ((But.of e11).trans b12).hide hvl)
    have dp12 : Dat H12 vs dp := D1.dat (p := p) (Dat.mono ((But.of e11).trans b12).hide hvs)
    have dt12 := hvt.dat
    have tab := List.all_eq_true.mp noTab_ok dt hdt
    have tab1 := shows9 (Bool.and_eq_true_iff.mp tab).1
    have tab2 : decide (dt.shown = "()") = emptyD dt := beq_iff_eq.mp (Bool.and_eq_true_iff.mp tab).2
    obtain ⟨g, hg⟩ : ∃ g, g = (restedB (dayList ss) a b dp dl db && emptyD dt) := ⟨_, rfl⟩
    try dsimp only [List.set_cons_zero, List.set_cons_succ]
    -- due
    refine q_asg (v := .bl g) (ev_is (ev_andV (a := restedB (dayList ss) a b dp dl db) (b := emptyD dt) (ev_call (ea_cons (ev_var rfl) (ea_cons (ev_var rfl) (ea_cons (ev_var rfl) (ea_cons (ev_var rfl) ea_nil)))) fun H13 e13 Q13 q13 _ => ⟨r, vs, vl, vb', ss, a, b, dp, dl, db, rfl, e13 _ _ hr12, rm, hw, Dat.mono e13 dp12, Dat.mono e13 dl12, hdb _, ten, fun H14 e14 => q13 H14 e14⟩)
      (fun _ => ev_is (ev_op (ev_reprE (er_dvar rfl dt12) tab1.1 tab1.2.1 tab1.2.2) ev_c (rv_eq rfl)) (by
        rw [← tab2]
        by_cases q : dt.shown = "()"
        · rw [decide_eq_true q, decide_eq_true (by rw [q])]
        · rw [decide_eq_false q, decide_eq_false fun z => q (V.str.inj z)]))) (by rw [hg])) fun H13 e13 => ?_
    try dsimp only [List.set_cons_zero, List.set_cons_succ]
    -- said
    refine q_asgR (R := fun H9 v => ∃ p9, v = V.ref p9 ∧ Rd H9 p9 (.tup [V.str "rested", .str (Txt.join "\n" ss), vs, vl, vb'])) (eq_tup (ea_cons ev_c (ea_cons (ev_var rfl) (ea_cons (ev_var rfl) (ea_cons (ev_var rfl) (ea_cons (ev_var rfl) ea_nil))))) (Nat.le_of_ble_eq_true rfl)) fun v H14 e14 ⟨ts, ev, hts⟩ => ?_
    subst ev
    have e12_14 := e13.trans e14
    have bf : ∀ b : Bool, (PyData.list [.bool b, .bool b]).showable = true ∧ (PyData.list [.bool b, .bool b]).shown.length ≤ sizeLine ∧ (PyData.list [.bool b, .bool b]).depth ≤ 40 := fun b => shows9 (List.all_eq_true.mp bools_ok b (by cases b <;> simp))
    obtain ⟨f1, f2, f3⟩ := bf g
    try dsimp only [List.set_cons_zero, List.set_cons_succ]
    have acc : ∀ {H15 : Hp} {Q9 : VK} {E9 : XK}, Ex H14 H15 → Q9 (.bl g) H15 ∨ True → (∀ H16, Ex H15 H16 → Q9 (.bl g) H16) → spAcc [.ref ts, vt] H15 Q9 E9 := fun {H15 Q9 E9} e15 _ q9 =>
      ⟨ts, vs, vl, vb', vt, ss, a, b, dp, dl, db, dt, rfl, rm, hw, ex_rd e15 hts, Dat.mono (e12_14.trans e15) dp12, Dat.mono (e12_14.trans e15) dl12, hdb _, Dat.mono (e12_14.trans e15) dt12, ten, fun H16 e16 => by rw [← hg]; exact q9 H16 e16⟩
    refine s_when (b := false) (et_is (et_test (ev_op (ev_reprE (d := .list [.bool g, .bool g]) (er_dlst (ers_dcons (er_of (v := .bl g) (ev_call (ea_cons (ev_var rfl) (ea_cons (ev_var rfl) ea_nil)) fun H15 e15 Q15 q15 _ => acc (E9 := fun _ _ _ => True) e15 (.inr trivial) q15) fun _ _ => .bl _)
      (ers_dcons (er_of (v := .bl g) (fun H15 e15 Q15 q15 => ⟨vt, rfl, .ref ts, rfl, acc (E9 := fun _ _ _ => True) e15 (.inr trivial) q15⟩) fun _ _ => .bl _) ers_dnil)) (by show 2 ≤ 1000; decide)) f1 f2 f3) (ev_reprE (d := .list [.bool g, .bool g]) (er_ldat (er_rep2 (er_of (ev_var rfl) fun _ _ => .bl _))) f1 f2 f3) (rv_ne rfl))) (by simp)) (fun z => nomatch z) fun _ H15 e15 => ?_
    exact ⟨_, _, _, _, _, _, _, _, _, rfl, b3_12.trans (But.of (e12_14.trans e15)), (s12.ext e12_14).ext e15⟩
end
end PW
namespace PW
open PySem PySem.Spec PyProof.Rows L2 Evl
abbrev sLaw : Stmt := top 92
theorem scLaw : FnScope ["_law_script", "_law_k"] ["_law_script"] (defScope sLaw) := ⟨rfl, rfl, rfl, by decide +kernel, rfl, by decide +kernel, by decide +kernel⟩

def spLaw (K : PySem.W.Frag) : Sp := fun vs H Q _ => ∃ (a : Addr) (ns : List Int), vs = [.ref a] ∧ SqL K H a (ns.map V.int) ∧ ns.length ≤ 63 ∧ ∀ H', Q (.bl true) H'
section
variable {P : Program} {w : World} {K : PySem.W.Frag} {mg : Str → Option Value} {base : Heap} {frt fp : Addr} {drt dp : FuncData}
theorem ok_law {f : Addr} {fd : FuncData} (F : Fun K "law" "law" sLaw f fd) (B : Blt mg)
    (mR : mg "_law_right" = some (.ref frt)) (kR : PySem.W.keepIn K (.ref frt) = true) (bR : Binds K drt ["_law_spring_here"] []) (GR : FnG P w K mg base CX0 17 frt drt ["_law_spring_here"] spRight)
    (mP : mg "_law_spring" = some (.ref fp)) (kP : PySem.W.keepIn K (.ref fp) = true) (bP : Binds K dp ["_law_cells", "_law_k"] []) (GP : FnOk P w K mg base CX0 17 fp dp ["_law_cells", "_law_k"] (spSpring K)) :
    FnG P w K mg base CX0 (17 + 1) f fd ["_law_script"] (spLaw K) := by
  refine okG F scLaw (fun vs H Q E h => ?_) (fun cdv A outer s H vs Q E' st hr h => ?_)
  · obtain ⟨a, ns, rfl, _⟩ := h
    rfl
  · obtain ⟨a, ns, rfl, hS, hlen, k⟩ := h
    refine ⟨_, (pss_one (ps_ret (pe_callB (cr_all rfl) (by rfl) B.all bAll (pa_cons (pe_lc (own := [("_law_k", 1)]) (g := gName 1) (tt := tYes) rfl scLaw.nd (pi_range1 rfl B.range (pa_cons (pe_callB (call_max2 rfl) (by rfl) B.max bMax (pa_cons pe_int (pa_cons (pe_callB (call_min2 rfl) (by rfl) B.min bMin (pa_cons (pe_callB call_len_seq (by rfl) B.len PySem.boot_len (pa_cons (pv 0) pa_nil)) (pa_cons pe_int pa_nil))) pa_nil))) pa_nil)) (blkOk_by (N := ["_law_script", "_law_k"]) (sc := defScope sLaw) (by decide +kernel)) (fun _ _ _ _ _ => pg_name (i := 1) scLaw.nd rfl (Or.inl rfl)) (fun _ _ _ _ _ => pts_nil) (fun _ _ _ _ _ => (pe_callG GR st hr (by rfl) mR kR bR .nil pass0 (pa_cons (pe_call GP hr (by rfl) mP kP bP .nil pass0 (pa_cons (pv 0) (pa_cons (pv 1) pa_nil))) pa_nil)))) pa_nil)))), ?_⟩
    have len : ((ns.map V.int).length : Int) ≤ 63 := by rw [List.length_map]; omega
    obtain ⟨n, hn, hb⟩ : ∃ n : Int, (if (if (5 : Int) < ((ns.map V.int).length : Int) then (5 : Int) else ((ns.map V.int).length : Int)) > 2 then (if (5 : Int) < ((ns.map V.int).length : Int) then (5 : Int) else ((ns.map V.int).length : Int)) else 2) = n ∧ 0 ≤ n ∧ n ≤ 5 := by
      refine ⟨_, rfl, ?_⟩
      split <;> split <;> omega
    have arg : EvA (tCons (tCB rMax2 (tCons (tC (.int 2)) (tCons (tCB rMin2 (tCons (tCB (rLenS K) (tCons (tVar 0) tNil)) (tCons (tC (.int 5)) tNil))) tNil))) tNil)
        [some (.ref a), none] H [.int n] := by
      rw [← hn]
      exact ea_cons (ev_max2 ev_c (ev_min2 (ev_len (ev_var rfl) hS) ev_c)) ea_nil
    refine s_ret (v := .bl true) (ev_is (ev_allL (bs := List.replicate n.toNat true) (el_is (el_lcR1 (n := n) (fun _ => true) (fun _ => .bl true) arg ⟨hb.1, by omega⟩ (fun _ => rfl) (fun _ _ _ _ => et_yes) (fun i H8 e8 hi _ => ?_)) (given_bl _))) (by simp)) fun H9 _ => k H9
    intro H7 e7 Q7 q7
    refine ⟨.ref a, rfl, .int (i : Int), rfl, a, ns, i, rfl, ex_l (e8.trans e7) hS, by omega, by omega, fun p H6 hp e6 sp => ⟨p, rfl, sp, fun H' but => q7 H' (fun b o e => but b o ?_ (e6 b o e))⟩⟩
    rintro rfl
    rw [hp] at e
    cases e
end
end PW
namespace PW
open PySem PySem.Spec PyProof.Rows L2 Evl
/-! ### what the top has written -/
def isB (o : Option (Option Value)) (s : String) : Bool := match o with | some (some (.builtin t)) => t == s | _ => false
theorem of_isB {o : Option (Option Value)} {s : String} (h : isB o s = true) : o = some (some (.builtin s)) := by
  unfold isB at h
  split at h
  · rw [beq_iff_eq.mp h]
  · cases h
def isN (o : Option (Option Value)) : Bool := match o with | some none => true | _ => false
theorem of_isN {o : Option (Option Value)} (h : isN o = true) : o = some none := by
  unfold isN at h
  split at h
  · rfl
  · cases h
def isR (o : Option (Option Value)) (a : Addr) : Bool := match o with | some (some (.ref b)) => b == a | _ => false
theorem of_isR {o : Option (Option Value)} {a : Addr} (h : isR o a = true) : o = some (some (.ref a)) := by
  unfold isR at h
  split at h
  · rw [beq_iff_eq.mp h]
  · cases h
def isIk (o : Option (Option Value)) (i : Int) : Bool := match o with | some (some (.int j _)) => j == i | _ => false
theorem of_isI {o : Option (Option Value)} {i : Int} (h : isIk o i = true) : ∃ t, o = some (some (.int i t)) := by
  unfold isIk at h
  split at h
  · rename_i j t
    rw [beq_iff_eq.mp h]
    exact ⟨t, rfl⟩
  · cases h
def isT (o : Option Value) (s : String) : Bool := match o with | some (.type t) => t == s | _ => false
theorem of_isT {o : Option Value} {s : String} (h : isT o s = true) : o = some (.type s) := by
  unfold isT at h
  split at h
  · rw [beq_iff_eq.mp h]
  · cases h
theorem all_range {n : Nat} {p : Nat → Bool} (h : (List.range n).all p = true) (i : Nat) (hi : i < n) : p i = true :=
  List.all_eq_true.mp h i (List.mem_range.mpr hi)
def xcOk (K : PySem.W.Frag) (C : Addr) (bm : List Value) (nid : String) : Bool :=
  PySem.W.excInitIn K C bm nid && (PySem.W.excOver K C bm && (isB (PySem.W.findIn K (.ref C) "__setattr__") "object.__setattr__" &&
  (isB (PySem.W.findIn K (.ref C) "__getattribute__") "BaseException.__getattribute__" && (isN (PySem.W.findIn K (.ref C) "__getattr__") &&
  (PySem.W.subIn K (.ref C) (.type "BaseException") == some true && (PySem.W.keepIn K (.ref C) && (PySem.W.hasDictIn K C &&
  ((PySem.W.clsIn K C).isSome && (isB (PySem.W.findIn K (.ref C) "__class__") "object.__class__" && PySem.W.mroIn K C (.type "object") == some true)))))))))
theorem xc_of {K : PySem.W.Frag} {C : Addr} {B n i : String} {bm : List Value} (bf : ExcBaseFacts B n i bm) (sf : PySem.StoreFacts B bm "object.__setattr__" "object")
    (h : xcOk K C bm n = true) : XC K C := by
  unfold xcOk at h
  simp only [Bool.and_eq_true] at h
  obtain ⟨h1, h2, h3, h4, h5, h6, h7, h8, h9, h10, h11⟩ := h
  exact ⟨⟨B, n, i, bm, bf, sf, h1, h2⟩, of_isB h3, of_isB h4, of_isN h5, beq_iff_eq.mp h6, h7, h8, h9, of_isB h10, beq_iff_eq.mp h11⟩

def frW (i : Nat) : Str := (["len", "int", "abs", "divmod", "repr", "isinstance", "all", "range", "max", "min", "str", "bool", "any", "tuple", "list", "sum"] : List Str).getD i ""
def lmW (i : Nat) : Str := (["MOST_PLATES", "MOST_AWAY", "MOST_DAYS", "MOST_TAKEN", "MOST_UNDER"] : List Str).getD i ""
def lvW (i : Nat) : Int := ([10, 2, 6, 6, 9] : List Int).getD i 0
def fnW (i : Nat) : Str := ((["read_number", "read_first", "read_depth", "read_cut", "read_take", "read_day", "numbers_let", "rearranged", "laid_back", "behind_day"] : List Str) ++ (["is_integer", "integer_within", "check_rule", "is_let", "check_choices", "led_pile", "course", "is_empty", "pile_behind", "accepts_rested"] : List Str) ++ (["accepts", "_law_spring", "_law_draw", "_law_of", "_law_is_whole", "_law_take", "_law_rows", "_law_head", "_law_begin", "_law_row_at"] : List Str) ++ (["_law_span", "_law_back", "_law_next", "_law_path", "_law_are_choices", "_law_some_choices", "_law_late_rows", "_law_bent_lots", "_law_no_table", "_law_due_rested"] : List Str) ++ (["_law_quiet_end", "_law_right", "law"] : List Str)).getD i ""
def faW (i : Nat) : Addr := ([182, 266, 231, 217, 224, 210, 238, 245, 252, 259, 168, 175, 369, 376, 383, 479, 484, 527, 541, 596, 642, 649, 656, 663, 670, 677, 684, 691, 698, 705, 712, 719, 726, 733, 740, 747, 754, 761, 768, 773, 780, 787, 792] : List Nat).getD i 0
def tyW (i : Nat) : String := (["NoneType", "str", "tuple", "int", "list"] : List String).getD i ""
def dfW (i : Nat) : Str := (["word", "least", "most", "depth", "turned"] : List Str).getD i ""
def tabF (K : PySem.W.Frag) : Bool := (List.range 16).all fun i => isN (PySem.W.nsIn K mainGlobals (frW i))
def tabL (K : PySem.W.Frag) : Bool := (List.range 5).all fun i => isIk (PySem.W.nsIn K mainGlobals (lmW i)) (lvW i)
def tabN (K : PySem.W.Frag) : Bool := (List.range 43).all fun i => isR (PySem.W.nsIn K mainGlobals (fnW i)) (faW i) && PySem.W.keepIn K (.ref (faW i))
def tabT (K : PySem.W.Frag) : Bool := (List.range 5).all fun i => PySem.W.notFirst K 358 (.type (tyW i)) && PySem.W.kitOne K (.type (tyW i)) (.ref 358) == some false
def tabD (K : PySem.W.Frag) : Bool := (List.range 5).all fun i => isN (PySem.W.findIn K (.ref 199) (dfW i))
theorem and1 {a b : Bool} (h : (a && b) = true) : a = true := (Bool.and_eq_true_iff.mp h).1
theorem and2 {a b : Bool} (h : (a && b) = true) : b = true := (Bool.and_eq_true_iff.mp h).2
theorem b_read_number {K : PySem.W.Frag} {fd : FuncData} {f : Addr} (F : Fun K "read_number" "read_number" sNum f fd) : Binds K fd ["word", "least", "most"] [] := F.binds (ps := ["word", "least", "most"]) fun _ _ _ _ _ _ us hl => match us, hl with | [_, _, _], _ => rfl
theorem b_read_first {K : PySem.W.Frag} {fd : FuncData} {f : Addr} (F : Fun K "read_first" "read_first" sFirst f fd) : Binds K fd ["row"] [] := F.binds (ps := ["row"]) fun _ _ _ _ _ _ us hl => match us, hl with | [_], _ => rfl
theorem b_read_depth {K : PySem.W.Frag} {fd : FuncData} {f : Addr} (F : Fun K "read_depth" "read_depth" sDepth f fd) : Binds K fd ["words"] [] := F.binds (ps := ["words"]) fun _ _ _ _ _ _ us hl => match us, hl with | [_], _ => rfl
theorem b_read_cut {K : PySem.W.Frag} {fd : FuncData} {f : Addr} (F : Fun K "read_cut" "read_cut" sCut f fd) : Binds K fd ["words"] [] := F.binds (ps := ["words"]) fun _ _ _ _ _ _ us hl => match us, hl with | [_], _ => rfl
theorem b_read_take {K : PySem.W.Frag} {fd : FuncData} {f : Addr} (F : Fun K "read_take" "read_take" sTake f fd) : Binds K fd ["words"] [] := F.binds (ps := ["words"]) fun _ _ _ _ _ _ us hl => match us, hl with | [_], _ => rfl
theorem b_read_day {K : PySem.W.Frag} {fd : FuncData} {f : Addr} (F : Fun K "read_day" "read_day" sDay f fd) : Binds K fd ["row"] [] := F.binds (ps := ["row"]) fun _ _ _ _ _ _ us hl => match us, hl with | [_], _ => rfl
theorem b_numbers_let {K : PySem.W.Frag} {fd : FuncData} {f : Addr} (F : Fun K "numbers_let" "numbers_let" sLets f fd) : Binds K fd ["day", "lying"] [] := F.binds (ps := ["day", "lying"]) fun _ _ _ _ _ _ us hl => match us, hl with | [_, _], _ => rfl
theorem b_rearranged {K : PySem.W.Frag} {fd : FuncData} {f : Addr} (F : Fun K "rearranged" "rearranged" sRe f fd) : Binds K fd ["day", "pile"] [] := F.binds (ps := ["day", "pile"]) fun _ _ _ _ _ _ us hl => match us, hl with | [_, _], _ => rfl
theorem b_laid_back {K : PySem.W.Frag} {fd : FuncData} {f : Addr} (F : Fun K "laid_back" "laid_back" sLaid f fd) : Binds K fd ["day", "pile", "heap"] [] := F.binds (ps := ["day", "pile", "heap"]) fun _ _ _ _ _ _ us hl => match us, hl with | [_, _, _], _ => rfl
theorem b_behind_day {K : PySem.W.Frag} {fd : FuncData} {f : Addr} (F : Fun K "behind_day" "behind_day" sBeh f fd) : Binds K fd ["days", "row", "pile", "heaps", "number"] [] := F.binds (ps := ["days", "row", "pile", "heaps", "number"]) fun _ _ _ _ _ _ us hl => match us, hl with | [_, _, _, _, _], _ => rfl
theorem b_is_integer {K : PySem.W.Frag} {fd : FuncData} {f : Addr} (F : Fun K "is_integer" "is_integer" sIsInt f fd) : Binds K fd ["value"] [] := F.binds (ps := ["value"]) fun _ _ _ _ _ _ us hl => match us, hl with | [_], _ => rfl
theorem b_integer_within {K : PySem.W.Frag} {fd : FuncData} {f : Addr} (F : Fun K "integer_within" "integer_within" sWithin f fd) : Binds K fd ["value", "least", "most"] [] := F.binds (ps := ["value", "least", "most"]) fun _ _ _ _ _ _ us hl => match us, hl with | [_, _, _], _ => rfl
theorem b_check_rule {K : PySem.W.Frag} {fd : FuncData} {f : Addr} (F : Fun K "check_rule" "check_rule" sCheck f fd) : Binds K fd ["rule"] [] := F.binds (ps := ["rule"]) fun _ _ _ _ _ _ us hl => match us, hl with | [_], _ => rfl
theorem b_is_let {K : PySem.W.Frag} {fd : FuncData} {f : Addr} (F : Fun K "is_let" "is_let" sIsLet f fd) : Binds K fd ["number", "lets"] [] := F.binds (ps := ["number", "lets"]) fun _ _ _ _ _ _ us hl => match us, hl with | [_, _], _ => rfl
theorem b_check_choices {K : PySem.W.Frag} {fd : FuncData} {f : Addr} (F : Fun K "check_choices" "check_choices" sChoices f fd) : Binds K fd ["rule", "choices"] [] := F.binds (ps := ["rule", "choices"]) fun _ _ _ _ _ _ us hl => match us, hl with | [_, _], _ => rfl
theorem b_led_pile {K : PySem.W.Frag} {fd : FuncData} {f : Addr} (F : Fun K "led_pile" "led_pile" sLedPile f fd) : Binds K fd ["rule", "choices"] [] := F.binds (ps := ["rule", "choices"]) fun _ _ _ _ _ _ us hl => match us, hl with | [_, _], _ => rfl
theorem b_course {K : PySem.W.Frag} {fd : FuncData} {f : Addr} (F : Fun K "course" "course" sCourse f fd) : Binds K fd ["rule", "choices"] [] := F.binds (ps := ["rule", "choices"]) fun _ _ _ _ _ _ us hl => match us, hl with | [_, _], _ => rfl
theorem b_is_empty {K : PySem.W.Frag} {fd : FuncData} {f : Addr} (F : Fun K "is_empty" "is_empty" sIsEmpty f fd) : Binds K fd ["certificate"] [] := F.binds (ps := ["certificate"]) fun _ _ _ _ _ _ us hl => match us, hl with | [_], _ => rfl
theorem b_pile_behind {K : PySem.W.Frag} {fd : FuncData} {f : Addr} (F : Fun K "pile_behind" "pile_behind" sPileB f fd) : Binds K fd ["rule", "choices"] [] := F.binds (ps := ["rule", "choices"]) fun _ _ _ _ _ _ us hl => match us, hl with | [_, _], _ => rfl
theorem b_accepts_rested {K : PySem.W.Frag} {fd : FuncData} {f : Addr} (F : Fun K "accepts_rested" "accepts_rested" sAccR f fd) : Binds K fd ["rule", "told", "certificate"] [] := F.binds (ps := ["rule", "told", "certificate"]) fun _ _ _ _ _ _ us hl => match us, hl with | [_, _, _], _ => rfl
theorem b_accepts {K : PySem.W.Frag} {fd : FuncData} {f : Addr} (F : Fun K "accepts" "accepts" sAcc f fd) : Binds K fd ["claim", "certificate"] [] := F.binds (ps := ["claim", "certificate"]) fun _ _ _ _ _ _ us hl => match us, hl with | [_, _], _ => rfl
theorem b__law_spring {K : PySem.W.Frag} {fd : FuncData} {f : Addr} (F : Fun K "_law_spring" "_law_spring" sSpring f fd) : Binds K fd ["_law_cells", "_law_k"] [] := F.binds (ps := ["_law_cells", "_law_k"]) fun _ _ _ _ _ _ us hl => match us, hl with | [_, _], _ => rfl
theorem b__law_draw {K : PySem.W.Frag} {fd : FuncData} {f : Addr} (F : Fun K "_law_draw" "_law_draw" sDraw f fd) : Binds K fd ["_law_spring_here", "_law_size"] [] := F.binds (ps := ["_law_spring_here", "_law_size"]) fun _ _ _ _ _ _ us hl => match us, hl with | [_, _], _ => rfl
theorem b__law_of {K : PySem.W.Frag} {fd : FuncData} {f : Addr} (F : Fun K "_law_of" "_law_of" sOf f fd) : Binds K fd ["_law_spring_here", "_law_menu"] [] := F.binds (ps := ["_law_spring_here", "_law_menu"]) fun _ _ _ _ _ _ us hl => match us, hl with | [_, _], _ => rfl
theorem b__law_is_whole {K : PySem.W.Frag} {fd : FuncData} {f : Addr} (F : Fun K "_law_is_whole" "_law_is_whole" sIsWhole f fd) : Binds K fd ["_law_thing", "_law_least", "_law_most_now"] [] := F.binds (ps := ["_law_thing", "_law_least", "_law_most_now"]) fun _ _ _ _ _ _ us hl => match us, hl with | [_, _, _], _ => rfl
theorem b__law_take {K : PySem.W.Frag} {fd : FuncData} {f : Addr} (F : Fun K "_law_take" "_law_take" sTakeL f fd) : Binds K fd ["_law_spring_here", "_law_many"] [] := F.binds (ps := ["_law_spring_here", "_law_many"]) fun _ _ _ _ _ _ us hl => match us, hl with | [_, _], _ => rfl
theorem b__law_rows {K : PySem.W.Frag} {fd : FuncData} {f : Addr} (F : Fun K "_law_rows" "_law_rows" sRowsL f fd) : Binds K fd ["_law_spring_here"] [] := F.binds (ps := ["_law_spring_here"]) fun _ _ _ _ _ _ us hl => match us, hl with | [_], _ => rfl
theorem b__law_head {K : PySem.W.Frag} {fd : FuncData} {f : Addr} (F : Fun K "_law_head" "_law_head" sHead f fd) : Binds K fd ["_law_rows_now"] [] := F.binds (ps := ["_law_rows_now"]) fun _ _ _ _ _ _ us hl => match us, hl with | [_], _ => rfl
theorem b__law_begin {K : PySem.W.Frag} {fd : FuncData} {f : Addr} (F : Fun K "_law_begin" "_law_begin" sBegin f fd) : Binds K fd ["_law_rows_now"] [] := F.binds (ps := ["_law_rows_now"]) fun _ _ _ _ _ _ us hl => match us, hl with | [_], _ => rfl
theorem b__law_row_at {K : PySem.W.Frag} {fd : FuncData} {f : Addr} (F : Fun K "_law_row_at" "_law_row_at" sRowAt f fd) : Binds K fd ["_law_rows_now", "_law_day_now"] [] := F.binds (ps := ["_law_rows_now", "_law_day_now"]) fun _ _ _ _ _ _ us hl => match us, hl with | [_, _], _ => rfl
theorem b__law_span {K : PySem.W.Frag} {fd : FuncData} {f : Addr} (F : Fun K "_law_span" "_law_span" sSpan f fd) : Binds K fd ["_law_rows_now", "_law_state"] [] := F.binds (ps := ["_law_rows_now", "_law_state"]) fun _ _ _ _ _ _ us hl => match us, hl with | [_, _], _ => rfl
theorem b__law_back {K : PySem.W.Frag} {fd : FuncData} {f : Addr} (F : Fun K "_law_back" "_law_back" sBack f fd) : Binds K fd ["_law_words", "_law_spots", "_law_heap"] [] := F.binds (ps := ["_law_words", "_law_spots", "_law_heap"]) fun _ _ _ _ _ _ us hl => match us, hl with | [_, _, _], _ => rfl
theorem b__law_next {K : PySem.W.Frag} {fd : FuncData} {f : Addr} (F : Fun K "_law_next" "_law_next" sNext f fd) : Binds K fd ["_law_rows_now", "_law_state", "_law_lot"] [] := F.binds (ps := ["_law_rows_now", "_law_state", "_law_lot"]) fun _ _ _ _ _ _ us hl => match us, hl with | [_, _, _], _ => rfl
theorem b__law_path {K : PySem.W.Frag} {fd : FuncData} {f : Addr} (F : Fun K "_law_path" "_law_path" sPath f fd) : Binds K fd ["_law_rows_now", "_law_lots"] [] := F.binds (ps := ["_law_rows_now", "_law_lots"]) fun _ _ _ _ _ _ us hl => match us, hl with | [_, _], _ => rfl
theorem b__law_are_choices {K : PySem.W.Frag} {fd : FuncData} {f : Addr} (F : Fun K "_law_are_choices" "_law_are_choices" sAreC f fd) : Binds K fd ["_law_rows_now", "_law_thing"] [] := F.binds (ps := ["_law_rows_now", "_law_thing"]) fun _ _ _ _ _ _ us hl => match us, hl with | [_, _], _ => rfl
theorem b__law_some_choices {K : PySem.W.Frag} {fd : FuncData} {f : Addr} (F : Fun K "_law_some_choices" "_law_some_choices" sSomeChoices f fd) : Binds K fd ["_law_spring_here", "_law_rows_now", "_law_most_now"] [] := F.binds (ps := ["_law_spring_here", "_law_rows_now", "_law_most_now"]) fun _ _ _ _ _ _ us hl => match us, hl with | [_, _, _], _ => rfl
theorem b__law_late_rows {K : PySem.W.Frag} {fd : FuncData} {f : Addr} (F : Fun K "_law_late_rows" "_law_late_rows" sLate f fd) : Binds K fd ["_law_spring_here", "_law_heads"] [] := F.binds (ps := ["_law_spring_here", "_law_heads"]) fun _ _ _ _ _ _ us hl => match us, hl with | [_, _], _ => rfl
theorem b__law_bent_lots {K : PySem.W.Frag} {fd : FuncData} {f : Addr} (F : Fun K "_law_bent_lots" "_law_bent_lots" sBentL f fd) : Binds K fd ["_law_spring_here", "_law_lots"] [] := F.binds (ps := ["_law_spring_here", "_law_lots"]) fun _ _ _ _ _ _ us hl => match us, hl with | [_, _], _ => rfl
theorem b__law_no_table {K : PySem.W.Frag} {fd : FuncData} {f : Addr} (F : Fun K "_law_no_table" "_law_no_table" sNoTab f fd) : Binds K fd ["_law_spring_here"] [] := F.binds (ps := ["_law_spring_here"]) fun _ _ _ _ _ _ us hl => match us, hl with | [_], _ => rfl
theorem b__law_due_rested {K : PySem.W.Frag} {fd : FuncData} {f : Addr} (F : Fun K "_law_due_rested" "_law_due_rested" sDueR f fd) : Binds K fd ["_law_rows_now", "_law_spot", "_law_lots", "_law_bound"] [] := F.binds (ps := ["_law_rows_now", "_law_spot", "_law_lots", "_law_bound"]) fun _ _ _ _ _ _ us hl => match us, hl with | [_, _, _, _], _ => rfl
theorem b__law_quiet_end {K : PySem.W.Frag} {fd : FuncData} {f : Addr} (F : Fun K "_law_quiet_end" "_law_quiet_end" sQuiet f fd) : Binds K fd ["_law_rows_now", "_law_spot", "_law_lots"] [] := F.binds (ps := ["_law_rows_now", "_law_spot", "_law_lots"]) fun _ _ _ _ _ _ us hl => match us, hl with | [_, _, _], _ => rfl
theorem b__law_right {K : PySem.W.Frag} {fd : FuncData} {f : Addr} (F : Fun K "_law_right" "_law_right" sRight f fd) : Binds K fd ["_law_spring_here"] [] := F.binds (ps := ["_law_spring_here"]) fun _ _ _ _ _ _ us hl => match us, hl with | [_], _ => rfl
theorem b_law {K : PySem.W.Frag} {fd : FuncData} {f : Addr} (F : Fun K "law" "law" sLaw f fd) : Binds K fd ["_law_script"] [] := F.binds (ps := ["_law_script"]) fun _ _ _ _ _ _ us hl => match us, hl with | [_], _ => rfl
theorem bindsR {K : PySem.W.Frag} {fd : FuncData} {f : Addr} (F : Fun K "read" "Rule.read" sRead f fd) : Binds K fd ["cls", "text"] [] := F.binds (ps := ["cls", "text"]) fun _ _ _ _ _ _ us hl => match us, hl with | [_, _], _ => rfl
theorem bindsD {K : PySem.W.Frag} {fd : FuncData} {f : Addr} (F : Fun K "__init__" "Day.__init__" sDayI f fd) : Binds K fd ["self", "word", "least", "most", "depth", "turned"] [] := F.binds (ps := ["self", "word", "least", "most", "depth", "turned"]) fun _ _ _ _ _ _ us hl => match us, hl with | [_, _, _, _, _, _], _ => rfl
theorem m_Rrows {K : PySem.W.Frag} {fd : FuncData} {f : Addr} (F : Fun K "rows" "Rule.rows" sRows f fd) : Binds K fd ["self"] [] := F.binds (ps := ["self"]) fun _ _ _ _ _ _ us hl => match us, hl with | [_], _ => rfl
theorem m_Rplates {K : PySem.W.Frag} {fd : FuncData} {f : Addr} (F : Fun K "plates" "Rule.plates" sPlates f fd) : Binds K fd ["self"] [] := F.binds (ps := ["self"]) fun _ _ _ _ _ _ us hl => match us, hl with | [_], _ => rfl
theorem m_Raway {K : PySem.W.Frag} {fd : FuncData} {f : Addr} (F : Fun K "away" "Rule.away" sAway f fd) : Binds K fd ["self"] [] := F.binds (ps := ["self"]) fun _ _ _ _ _ _ us hl => match us, hl with | [_], _ => rfl
theorem bg_CN {K : PySem.W.Frag} {fd : FuncData} {f : Addr} (F : Fun K "__init__" "NotARule.__init__" sGNotARule f fd) (s : Shared) (us : List Value) (hl : us.length = (["self", "given"] : List Str).length) : BindsTo s fd ⟨us, []⟩ ((["self", "given"] : List Str).zip us) := by
  obtain ⟨_, _, _, _, _, _, _, _, _, rfl, _, _⟩ := F.ex
  match us, hl with
  | [_, _], _ => exact .of_eq rfl
theorem bg_CI {K : PySem.W.Frag} {fd : FuncData} {f : Addr} (F : Fun K "__init__" "InvalidNumber.__init__" sGInvalidNumber f fd) (s : Shared) (us : List Value) (hl : us.length = (["self", "given"] : List Str).length) : BindsTo s fd ⟨us, []⟩ ((["self", "given"] : List Str).zip us) := by
  obtain ⟨_, _, _, _, _, _, _, _, _, rfl, _, _⟩ := F.ex
  match us, hl with
  | [_, _], _ => exact .of_eq rfl
theorem bg_CL {K : PySem.W.Frag} {fd : FuncData} {f : Addr} (F : Fun K "__init__" "NotLet.__init__" sGNotLet f fd) (s : Shared) (us : List Value) (hl : us.length = (["self", "given"] : List Str).length) : BindsTo s fd ⟨us, []⟩ ((["self", "given"] : List Str).zip us) := by
  obtain ⟨_, _, _, _, _, _, _, _, _, rfl, _, _⟩ := F.ex
  match us, hl with
  | [_, _], _ => exact .of_eq rfl
theorem b_pinit {K : PySem.W.Frag} {fd : FuncData} {f : Addr} (F : Fun K "__init__" "Pile.__init__" sPInit f fd) : Binds K fd ["self", "rule"] [] := F.binds (ps := ["self", "rule"]) fun _ _ _ _ _ _ us hl => match us, hl with | [_, _], _ => rfl
theorem b_pday {K : PySem.W.Frag} {fd : FuncData} {f : Addr} (F : Fun K "day" "Pile.day" sDayP f fd) : Binds K fd ["self", "number"] [] := F.binds (ps := ["self", "number"]) fun _ _ _ _ _ _ us hl => match us, hl with | [_, _], _ => rfl
theorem m_Qstanding {K : PySem.W.Frag} {fd : FuncData} {f : Addr} (F : Fun K "standing" "Pile.standing" sPSt f fd) : Binds K fd ["self"] [] := F.binds (ps := ["self"]) fun _ _ _ _ _ _ us hl => match us, hl with | [_], _ => rfl
theorem m_Qheaps {K : PySem.W.Frag} {fd : FuncData} {f : Addr} (F : Fun K "heaps" "Pile.heaps" sPHe f fd) : Binds K fd ["self"] [] := F.binds (ps := ["self"]) fun _ _ _ _ _ _ us hl => match us, hl with | [_], _ => rfl
theorem m_Quses {K : PySem.W.Frag} {fd : FuncData} {f : Addr} (F : Fun K "uses" "Pile.uses" sPUs f fd) : Binds K fd ["self"] [] := F.binds (ps := ["self"]) fun _ _ _ _ _ _ us hl => match us, hl with | [_], _ => rfl
theorem m_Qchanges {K : PySem.W.Frag} {fd : FuncData} {f : Addr} (F : Fun K "changes" "Pile.changes" sPCh f fd) : Binds K fd ["self"] [] := F.binds (ps := ["self"]) fun _ _ _ _ _ _ us hl => match us, hl with | [_], _ => rfl
theorem m_Qlets {K : PySem.W.Frag} {fd : FuncData} {f : Addr} (F : Fun K "lets" "Pile.lets" sPLets f fd) : Binds K fd ["self"] [] := F.binds (ps := ["self"]) fun _ _ _ _ _ _ us hl => match us, hl with | [_], _ => rfl
theorem m_Qrow {K : PySem.W.Frag} {fd : FuncData} {f : Addr} (F : Fun K "row" "Pile.row" sPRow f fd) : Binds K fd ["self"] [] := F.binds (ps := ["self"]) fun _ _ _ _ _ _ us hl => match us, hl with | [_], _ => rfl
def gAW (i : Nat) : Addr := ([440, 448, 456, 464, 432, 424] : List Nat).getD i 0
def cW (i : Nat) : Addr := if i = 5 then 89 else 127
def fW (i : Nat) : Addr := if i = 5 then 86 else 124
def esC (P : Params) : Array DictEntry := #[⟨PyData.keyHash P "runs", .str "runs" 1030, .ref 579⟩, ⟨PyData.keyHash P "out", .str "out" 1031, .ref 586⟩, ⟨PyData.keyHash P "rests", .str "rests" 1032, .ref 591⟩, ⟨PyData.keyHash P "rested", .str "rested" 1033, .ref 596⟩, ⟨PyData.keyHash P "lead", .str "lead" 1034, .ref 601⟩, ⟨PyData.keyHash P "ahead", .str "ahead" 1035, .ref 615⟩, ⟨PyData.keyHash P "endless", .str "endless" 1036, .ref 634⟩]
theorem esC_lit (P : Params) : PySem.W.KeysLit P (esC P).toList := ⟨⟨_, _, rfl, rfl⟩, ⟨_, _, rfl, rfl⟩, ⟨_, _, rfl, rfl⟩, ⟨_, _, rfl, rfl⟩, ⟨_, _, rfl, rfl⟩, ⟨_, _, rfl, rfl⟩, ⟨_, _, rfl, rfl⟩, trivial⟩
theorem kb_accepts {K : PySem.W.Frag} {fd : FuncData} {f : Addr} (F : Fun K "accepts" "accepts" sAcc f fd) : KBinds K fd ["claim", "certificate"] ["certificate", "claim"] g2 g2V := by
  obtain ⟨_, _, _, _, _, _, _, _, _, rfl, _, _⟩ := F.ex
  exact kb2 rfl fun s c r => .of_eq rfl
theorem bind_script {K : PySem.W.Frag} {fd : FuncData} {f : Addr} (F : Fun K "law" "law" sLaw f fd) (s : Shared) (u : Value) : BindsTo s fd ⟨[u], []⟩ [("_law_script", u)] := by
  obtain ⟨_, _, _, _, _, _, _, _, _, rfl, _, _⟩ := F.ex
  exact .of_eq rfl
theorem all_mk {l : PySem.W.OpenLaw} {w : World} {K : PySem.W.Frag} {h : Heap} {mg : Str → Option Value} {fa : Addr} {restc rest0 rest1 rest2 rest3 rest4 rest5 rest6 rest7 rest8 : List Value} (X : K.In h) (G : h.Ns mainGlobals mg) (hfa : mg "law" = some (.ref fa))
    (tF : tabF K = true)
    (tL : tabL K = true)
    (tN : tabN K = true)
    (tT : tabT K = true)
    (tD : tabD K = true)
    (F0 : ∃ fd, Fun K "read_number" "read_number" sNum 182 fd)
    (F1 : ∃ fd, Fun K "read_first" "read_first" sFirst 266 fd)
    (F2 : ∃ fd, Fun K "read_depth" "read_depth" sDepth 231 fd)
    (F3 : ∃ fd, Fun K "read_cut" "read_cut" sCut 217 fd)
    (F4 : ∃ fd, Fun K "read_take" "read_take" sTake 224 fd)
    (F5 : ∃ fd, Fun K "read_day" "read_day" sDay 210 fd)
    (F6 : ∃ fd, Fun K "numbers_let" "numbers_let" sLets 238 fd)
    (F7 : ∃ fd, Fun K "rearranged" "rearranged" sRe 245 fd)
    (F8 : ∃ fd, Fun K "laid_back" "laid_back" sLaid 252 fd)
    (F9 : ∃ fd, Fun K "behind_day" "behind_day" sBeh 259 fd)
    (F10 : ∃ fd, Fun K "is_integer" "is_integer" sIsInt 168 fd)
    (F11 : ∃ fd, Fun K "integer_within" "integer_within" sWithin 175 fd)
    (F12 : ∃ fd, Fun K "check_rule" "check_rule" sCheck 369 fd)
    (F13 : ∃ fd, Fun K "is_let" "is_let" sIsLet 376 fd)
    (F14 : ∃ fd, Fun K "check_choices" "check_choices" sChoices 383 fd)
    (F15 : ∃ fd, Fun K "led_pile" "led_pile" sLedPile 479 fd)
    (F16 : ∃ fd, Fun K "course" "course" sCourse 484 fd)
    (F17 : ∃ fd, Fun K "is_empty" "is_empty" sIsEmpty 527 fd)
    (F18 : ∃ fd, Fun K "pile_behind" "pile_behind" sPileB 541 fd)
    (F19 : ∃ fd, Fun K "accepts_rested" "accepts_rested" sAccR 596 fd)
    (F20 : ∃ fd, Fun K "accepts" "accepts" sAcc 642 fd)
    (F21 : ∃ fd, Fun K "_law_spring" "_law_spring" sSpring 649 fd)
    (F22 : ∃ fd, Fun K "_law_draw" "_law_draw" sDraw 656 fd)
    (F23 : ∃ fd, Fun K "_law_of" "_law_of" sOf 663 fd)
    (F24 : ∃ fd, Fun K "_law_is_whole" "_law_is_whole" sIsWhole 670 fd)
    (F25 : ∃ fd, Fun K "_law_take" "_law_take" sTakeL 677 fd)
    (F26 : ∃ fd, Fun K "_law_rows" "_law_rows" sRowsL 684 fd)
    (F27 : ∃ fd, Fun K "_law_head" "_law_head" sHead 691 fd)
    (F28 : ∃ fd, Fun K "_law_begin" "_law_begin" sBegin 698 fd)
    (F29 : ∃ fd, Fun K "_law_row_at" "_law_row_at" sRowAt 705 fd)
    (F30 : ∃ fd, Fun K "_law_span" "_law_span" sSpan 712 fd)
    (F31 : ∃ fd, Fun K "_law_back" "_law_back" sBack 719 fd)
    (F32 : ∃ fd, Fun K "_law_next" "_law_next" sNext 726 fd)
    (F33 : ∃ fd, Fun K "_law_path" "_law_path" sPath 733 fd)
    (F34 : ∃ fd, Fun K "_law_are_choices" "_law_are_choices" sAreC 740 fd)
    (F35 : ∃ fd, Fun K "_law_some_choices" "_law_some_choices" sSomeChoices 747 fd)
    (F36 : ∃ fd, Fun K "_law_late_rows" "_law_late_rows" sLate 754 fd)
    (F37 : ∃ fd, Fun K "_law_bent_lots" "_law_bent_lots" sBentL 761 fd)
    (F38 : ∃ fd, Fun K "_law_no_table" "_law_no_table" sNoTab 768 fd)
    (F39 : ∃ fd, Fun K "_law_due_rested" "_law_due_rested" sDueR 773 fd)
    (F40 : ∃ fd, Fun K "_law_quiet_end" "_law_quiet_end" sQuiet 780 fd)
    (F41 : ∃ fd, Fun K "_law_right" "_law_right" sRight 787 fd)
    (F42 : ∃ fd, Fun K "law" "law" sLaw 792 fd)
    (hC : isR (PySem.W.nsIn K mainGlobals "Rule") 358 = true)
    (hCD : isR (PySem.W.nsIn K mainGlobals "Day") 199 = true)
    (pgC : PySem.W.plainGet K 358 Str.empty = true)
    (hdC : PySem.W.hasDictIn K 358 = true)
    (poC : PySem.W.plainOver K 358 = true)
    (saC : PySem.W.findIn K (.ref 358) "__setattr__" = some (some (.builtin "object.__setattr__")))
    (mkC : PySem.W.makesIn K 358 = true)
    (miC : PySem.W.findIn K (.ref 358) "__init__" = some (some (.ref 278)))
    (mfC : PySem.W.isFn K (.ref 278) = true)
    (kpC : PySem.W.keepIn K (.ref 358) = true)
    (n0 : PySem.W.findIn K (.ref 358) "_rows" = some none)
    (n1 : PySem.W.findIn K (.ref 358) "days" = some none)
    (n2 : PySem.W.findIn K (.ref 358) "_plates" = some none)
    (n3 : PySem.W.findIn K (.ref 358) "_away" = some none)
    (ha : PySem.W.findIn K (.ref 358) "__class__" = some (some (.builtin "object.__class__")))
    (hn : PySem.W.specialIn K (.builtin "object.__class__") "__get__" = some (some (.builtin "getset_descriptor.__get__")))
    (htk : PySem.W.takesIn K (.builtin "object.__class__") = some true)
    (hm : PySem.W.mroIn K 358 (.type "object") = some true)
    (rd : PySem.W.readsIn K 358 (.type "type") = true)
    (ga : PySem.W.specialIn K (.ref 358) "__getattribute__" = some (some (.builtin "type.__getattribute__")))
    (cm : PySem.W.findCls K (.ref 358) (.type "type") "read" = some (.get (.builtin "classmethod.__get__") (.ref 287) .none (.ref 358)))
    (rc : PySem.W.recIn K 287 "classmethod" = some (.ref 285 :: restc))
    (rf : PySem.W.fnIn K 285 = true)
    (pgD : PySem.W.plainGet K 199 Str.empty = true)
    (hdD : PySem.W.hasDictIn K 199 = true)
    (poD : PySem.W.plainOver K 199 = true)
    (saD : PySem.W.findIn K (.ref 199) "__setattr__" = some (some (.builtin "object.__setattr__")))
    (mkD : PySem.W.makesIn K 199 = true)
    (miD : PySem.W.findIn K (.ref 199) "__init__" = some (some (.ref 196)))
    (mfD : PySem.W.isFn K (.ref 196) = true)
    (kpD : PySem.W.keepIn K (.ref 199) = true)
    (dob : PySem.W.mroIn K 199 (.type "object") = some true)
    (deq : PySem.W.findIn K (.ref 199) "__eq__" = some (some (.builtin "object.__eq__")))
    (FI : ∃ fd, Fun K "__init__" "Rule.__init__" sInit 278 fd)
    (FR : ∃ fd, Fun K "read" "Rule.read" sRead 285 fd)
    (FD : ∃ fd, Fun K "__init__" "Day.__init__" sDayI 196 fd)
    (hCR : isR (PySem.W.nsIn K mainGlobals "InvalidRows") 108 = true)
    (bxCR : xcOk K 108 [.type "ValueError", .type "Exception", .type "BaseException", .type "object"] "ValueError.__new__" = true)
    (bsCR : PySem.W.subIn K (.ref 108) (.type "BaseException") = some true)
    (byCR : PySem.W.typeIn K (.ref 108) = some (.type "type"))
    (bnCR : PySem.W.findIn K (.ref 108) "index" = some none)
    (biCR : PySem.W.findIn K (.ref 108) "__init__" = some (some (.ref 105)))
    (btCR : PySem.W.typeIn K (.ref 105) = some (.type "function"))
    (XCR : ∃ fd, Fun K "__init__" "InvalidRows.__init__" sBad 105 fd)
    (tK : (["NoneType", "bool", "int", "str", "list", "tuple", "dict"] : List String).all (fun a => PySem.W.kitOne K (.type a) (.ref 358) == some false) = true)
    (paRrows : PySem.W.findIn K (.ref 358) "rows" = some (some (.ref 296)))
    (pbRrows : PySem.W.specialIn K (.ref 296) "__get__" = some (some (.builtin "property.__get__")))
    (pcRrows : PySem.W.takesIn K (.ref 296) = some true)
    (pdRrows : PySem.W.recIn K 296 "property" = some (.ref 295 :: rest0))
    (MRrows : ∃ fd, Fun K "rows" "Rule.rows" sRows 295 fd)
    (paRplates : PySem.W.findIn K (.ref 358) "plates" = some (some (.ref 312)))
    (pbRplates : PySem.W.specialIn K (.ref 312) "__get__" = some (some (.builtin "property.__get__")))
    (pcRplates : PySem.W.takesIn K (.ref 312) = some true)
    (pdRplates : PySem.W.recIn K 312 "property" = some (.ref 311 :: rest1))
    (MRplates : ∃ fd, Fun K "plates" "Rule.plates" sPlates 311 fd)
    (paRaway : PySem.W.findIn K (.ref 358) "away" = some (some (.ref 320)))
    (pbRaway : PySem.W.specialIn K (.ref 320) "__get__" = some (some (.builtin "property.__get__")))
    (pcRaway : PySem.W.takesIn K (.ref 320) = some true)
    (pdRaway : PySem.W.recIn K 320 "property" = some (.ref 319 :: rest2))
    (MRaway : ∃ fd, Fun K "away" "Rule.away" sAway 319 fd)
    (hCN : isR (PySem.W.nsIn K mainGlobals "NotARule") 89 = true)
    (bxCN : xcOk K 89 [.type "ValueError", .type "Exception", .type "BaseException", .type "object"] "ValueError.__new__" = true)
    (bsCN : PySem.W.subIn K (.ref 89) (.type "BaseException") = some true)
    (byCN : PySem.W.typeIn K (.ref 89) = some (.type "type"))
    (bnCN : PySem.W.findIn K (.ref 89) "given" = some none)
    (biCN : PySem.W.findIn K (.ref 89) "__init__" = some (some (.ref 86)))
    (btCN : PySem.W.typeIn K (.ref 86) = some (.type "function"))
    (XCN : ∃ fd, Fun K "__init__" "NotARule.__init__" sGNotARule 86 fd)
    (hCI : isR (PySem.W.nsIn K mainGlobals "InvalidNumber") 70 = true)
    (bxCI : xcOk K 70 [.type "ValueError", .type "Exception", .type "BaseException", .type "object"] "ValueError.__new__" = true)
    (bsCI : PySem.W.subIn K (.ref 70) (.type "BaseException") = some true)
    (byCI : PySem.W.typeIn K (.ref 70) = some (.type "type"))
    (bnCI : PySem.W.findIn K (.ref 70) "given" = some none)
    (biCI : PySem.W.findIn K (.ref 70) "__init__" = some (some (.ref 67)))
    (btCI : PySem.W.typeIn K (.ref 67) = some (.type "function"))
    (XCI : ∃ fd, Fun K "__init__" "InvalidNumber.__init__" sGInvalidNumber 67 fd)
    (hCL : isR (PySem.W.nsIn K mainGlobals "NotLet") 159 = true)
    (bxCL : xcOk K 159 [.type "ArithmeticError", .type "Exception", .type "BaseException", .type "object"] "ArithmeticError.__new__" = true)
    (bsCL : PySem.W.subIn K (.ref 159) (.type "BaseException") = some true)
    (byCL : PySem.W.typeIn K (.ref 159) = some (.type "type"))
    (bnCL : PySem.W.findIn K (.ref 159) "given" = some none)
    (biCL : PySem.W.findIn K (.ref 159) "__init__" = some (some (.ref 156)))
    (btCL : PySem.W.typeIn K (.ref 156) = some (.type "function"))
    (XCL : ∃ fd, Fun K "__init__" "NotLet.__init__" sGNotLet 156 fd)
    (hCP : isR (PySem.W.nsIn K mainGlobals "Pile") 468 = true)
    (pgP : PySem.W.plainGet K 468 Str.empty = true)
    (hdP : PySem.W.hasDictIn K 468 = true)
    (poP : PySem.W.plainOver K 468 = true)
    (saP : PySem.W.findIn K (.ref 468) "__setattr__" = some (some (.builtin "object.__setattr__")))
    (mkP : PySem.W.makesIn K 468 = true)
    (miP : PySem.W.findIn K (.ref 468) "__init__" = some (some (.ref 397)))
    (mfP : PySem.W.isFn K (.ref 397) = true)
    (kpP : PySem.W.keepIn K (.ref 468) = true)
    (p0 : PySem.W.findIn K (.ref 468) "_rule" = some none)
    (p1 : PySem.W.findIn K (.ref 468) "_course" = some none)
    (kib : PySem.W.kitOne K (.type "int") (.type "bool") = some false)
    (PI : ∃ fd, Fun K "__init__" "Pile.__init__" sPInit 397 fd)
    (atPD : PySem.W.findIn K (.ref 468) "day" = some (some (.ref 402)))
    (fnPD : PySem.W.isFn K (.ref 402) = true)
    (kpPD : PySem.W.keepIn K (.ref 402) = true)
    (PD : ∃ fd, Fun K "day" "Pile.day" sDayP 402 fd)
    (paQstanding : PySem.W.findIn K (.ref 468) "standing" = some (some (.ref 441)))
    (pbQstanding : PySem.W.specialIn K (.ref 441) "__get__" = some (some (.builtin "property.__get__")))
    (pcQstanding : PySem.W.takesIn K (.ref 441) = some true)
    (pdQstanding : PySem.W.recIn K 441 "property" = some (.ref 440 :: rest3))
    (MQstanding : ∃ fd, Fun K "standing" "Pile.standing" sPSt 440 fd)
    (paQheaps : PySem.W.findIn K (.ref 468) "heaps" = some (some (.ref 449)))
    (pbQheaps : PySem.W.specialIn K (.ref 449) "__get__" = some (some (.builtin "property.__get__")))
    (pcQheaps : PySem.W.takesIn K (.ref 449) = some true)
    (pdQheaps : PySem.W.recIn K 449 "property" = some (.ref 448 :: rest4))
    (MQheaps : ∃ fd, Fun K "heaps" "Pile.heaps" sPHe 448 fd)
    (paQuses : PySem.W.findIn K (.ref 468) "uses" = some (some (.ref 457)))
    (pbQuses : PySem.W.specialIn K (.ref 457) "__get__" = some (some (.builtin "property.__get__")))
    (pcQuses : PySem.W.takesIn K (.ref 457) = some true)
    (pdQuses : PySem.W.recIn K 457 "property" = some (.ref 456 :: rest5))
    (MQuses : ∃ fd, Fun K "uses" "Pile.uses" sPUs 456 fd)
    (paQchanges : PySem.W.findIn K (.ref 468) "changes" = some (some (.ref 465)))
    (pbQchanges : PySem.W.specialIn K (.ref 465) "__get__" = some (some (.builtin "property.__get__")))
    (pcQchanges : PySem.W.takesIn K (.ref 465) = some true)
    (pdQchanges : PySem.W.recIn K 465 "property" = some (.ref 464 :: rest6))
    (MQchanges : ∃ fd, Fun K "changes" "Pile.changes" sPCh 464 fd)
    (paQlets : PySem.W.findIn K (.ref 468) "lets" = some (some (.ref 433)))
    (pbQlets : PySem.W.specialIn K (.ref 433) "__get__" = some (some (.builtin "property.__get__")))
    (pcQlets : PySem.W.takesIn K (.ref 433) = some true)
    (pdQlets : PySem.W.recIn K 433 "property" = some (.ref 432 :: rest7))
    (MQlets : ∃ fd, Fun K "lets" "Pile.lets" sPLets 432 fd)
    (paQrow : PySem.W.findIn K (.ref 468) "row" = some (some (.ref 425)))
    (pbQrow : PySem.W.specialIn K (.ref 425) "__get__" = some (some (.builtin "property.__get__")))
    (pcQrow : PySem.W.takesIn K (.ref 425) = some true)
    (pdQrow : PySem.W.recIn K 425 "property" = some (.ref 424 :: rest8))
    (MQrow : ∃ fd, Fun K "row" "Pile.row" sPRow 424 fd)
    (hCK : isR (PySem.W.nsIn K mainGlobals "InvalidChoices") 127 = true)
    (bxCK : xcOk K 127 [.type "ValueError", .type "Exception", .type "BaseException", .type "object"] "ValueError.__new__" = true)
    (bsCK : PySem.W.subIn K (.ref 127) (.type "BaseException") = some true)
    (byCK : PySem.W.typeIn K (.ref 127) = some (.type "type"))
    (bnCK : PySem.W.findIn K (.ref 127) "index" = some none)
    (biCK : PySem.W.findIn K (.ref 127) "__init__" = some (some (.ref 124)))
    (btCK : PySem.W.typeIn K (.ref 124) = some (.type "function"))
    (XCK : ∃ fd, Fun K "__init__" "InvalidChoices.__init__" sIni7 124 fd)
    (hIT : isR (PySem.W.nsIn K mainGlobals "InvalidText") 51 = true)
    (e77 : PySem.W.exmOne K (.ref 127) (.ref 127) = some true)
    (hClmK : K.lookup 635 = some ⟨.type "dict", none, .dict (esC w.params) 7, #[]⟩)
    (hClmN : PySem.W.nsIn K 635 "rested" = some (some (.ref 596)))
    (hClmM : isR (PySem.W.nsIn K mainGlobals "CLAIMS") 635 = true) :
    ∃ fd : FuncData, (∀ (s : Shared) (u : Value), BindsTo s fd ⟨[u], []⟩ [("_law_script", u)]) ∧
      ∀ base : Heap, K.In base → base.Ns mainGlobals mg → (base.get? sysModules).isSome = true → FnG l.prog w K mg base CX0 18 fa fd ["_law_script"] (spLaw K) := by
  obtain ⟨dF0, F0⟩ := F0
  obtain ⟨dF1, F1⟩ := F1
  obtain ⟨dF2, F2⟩ := F2
  obtain ⟨dF3, F3⟩ := F3
  obtain ⟨dF4, F4⟩ := F4
  obtain ⟨dF5, F5⟩ := F5
  obtain ⟨dF6, F6⟩ := F6
  obtain ⟨dF7, F7⟩ := F7
  obtain ⟨dF8, F8⟩ := F8
  obtain ⟨dF9, F9⟩ := F9
  obtain ⟨dF10, F10⟩ := F10
  obtain ⟨dF11, F11⟩ := F11
  obtain ⟨dF12, F12⟩ := F12
  obtain ⟨dF13, F13⟩ := F13
  obtain ⟨dF14, F14⟩ := F14
  obtain ⟨dF15, F15⟩ := F15
  obtain ⟨dF16, F16⟩ := F16
  obtain ⟨dF17, F17⟩ := F17
  obtain ⟨dF18, F18⟩ := F18
  obtain ⟨dF19, F19⟩ := F19
  obtain ⟨dF20, F20⟩ := F20
  obtain ⟨dF21, F21⟩ := F21
  obtain ⟨dF22, F22⟩ := F22
  obtain ⟨dF23, F23⟩ := F23
  obtain ⟨dF24, F24⟩ := F24
  obtain ⟨dF25, F25⟩ := F25
  obtain ⟨dF26, F26⟩ := F26
  obtain ⟨dF27, F27⟩ := F27
  obtain ⟨dF28, F28⟩ := F28
  obtain ⟨dF29, F29⟩ := F29
  obtain ⟨dF30, F30⟩ := F30
  obtain ⟨dF31, F31⟩ := F31
  obtain ⟨dF32, F32⟩ := F32
  obtain ⟨dF33, F33⟩ := F33
  obtain ⟨dF34, F34⟩ := F34
  obtain ⟨dF35, F35⟩ := F35
  obtain ⟨dF36, F36⟩ := F36
  obtain ⟨dF37, F37⟩ := F37
  obtain ⟨dF38, F38⟩ := F38
  obtain ⟨dF39, F39⟩ := F39
  obtain ⟨dF40, F40⟩ := F40
  obtain ⟨dF41, F41⟩ := F41
  obtain ⟨dF42, F42⟩ := F42
  obtain ⟨dFI, FI⟩ := FI
  obtain ⟨dFR, FR⟩ := FR
  obtain ⟨dFD, FD⟩ := FD
  obtain ⟨dXCR, XCR⟩ := XCR
  obtain ⟨dMRrows, MRrows⟩ := MRrows
  obtain ⟨dMRplates, MRplates⟩ := MRplates
  obtain ⟨dMRaway, MRaway⟩ := MRaway
  obtain ⟨dXCN, XCN⟩ := XCN
  obtain ⟨dXCI, XCI⟩ := XCI
  obtain ⟨dXCL, XCL⟩ := XCL
  obtain ⟨dPI, PI⟩ := PI
  obtain ⟨dPD, PD⟩ := PD
  obtain ⟨dMQstanding, MQstanding⟩ := MQstanding
  obtain ⟨dMQheaps, MQheaps⟩ := MQheaps
  obtain ⟨dMQuses, MQuses⟩ := MQuses
  obtain ⟨dMQchanges, MQchanges⟩ := MQchanges
  obtain ⟨dMQlets, MQlets⟩ := MQlets
  obtain ⟨dMQrow, MQrow⟩ := MQrow
  obtain ⟨dXCK, XCK⟩ := XCK
  have fr : ∀ i, i < 16 → mg (frW i) = none := fun i hi => PySem.W.mg_none_of X G (of_isN (all_range tF i hi))
  have tl : ∀ i, i < 5 → ∃ t, mg (lmW i) = some (.int (lvW i) t) := fun i hi => (of_isI (all_range tL i hi)).imp fun t e => PySem.W.mg_of X G e
  have ln : ∀ i, i < 43 → mg (fnW i) = some (.ref (faW i)) := fun i hi => PySem.W.mg_of X G (of_isR (and1 (all_range tN i hi)))
  have lk : ∀ i, i < 43 → PySem.W.keepIn K (.ref (faW i)) = true := fun i hi => and2 (all_range tN i hi)
  have e := hfa.symm.trans (ln 42 (by decide))
  have e : fa = 792 := Value.ref.inj (Option.some.inj e)
  subst e
  have B : Blt mg := ⟨fr 0 (by decide), fr 1 (by decide), fr 2 (by decide), fr 3 (by decide), fr 4 (by decide), fr 5 (by decide), fr 6 (by decide), fr 7 (by decide), fr 8 (by decide), fr 9 (by decide), fr 10 (by decide), fr 11 (by decide), fr 12 (by decide), fr 13 (by decide), fr 14 (by decide), fr 15 (by decide)⟩
  have L : Lim mg := ⟨tl 0 (by decide), tl 1 (by decide), tl 2 (by decide), tl 3 (by decide), tl 4 (by decide)⟩
  have mC : mg "Rule" = some (.ref 358) := PySem.W.mg_of X G (of_isR hC)
  have mCD : mg "Day" = some (.ref 199) := PySem.W.mg_of X G (of_isR hCD)
  have clC : Cls K 358 := ⟨pgC, hdC, poC, saC⟩
  have MkC : Mk K 358 278 := ⟨mkC, miC, mfC, kpC⟩
  have clD : Cls K 199 := ⟨pgD, hdD, poD, saD⟩
  have MkD : Mk K 199 196 := ⟨mkD, miD, mfD, kpD⟩
  have mCR : mg "InvalidRows" = some (.ref 108) := PySem.W.mg_of X G (of_isR hCR)
  have TCR : XC K 108 := xc_of PySem.F.excBase_ValueError PySem.F.store_ValueError bxCR
  have dn : ∀ i, i < 5 → PySem.W.findIn K (.ref 199) (dfW i) = some none := fun i hi => of_isN (all_range tD i hi)
  have R : Ru K 358 := ⟨clC, n0, n1, n2, n3⟩
  have I : IsC K 358 := ⟨ha, hn, htk, hm⟩
  have Y : Cl K mg 358 278 285 287 108 (.type "type") dFR := ⟨R, I, mC, MkC, ⟨rd, ga⟩, ⟨cm, ⟨restc, rc⟩, rf⟩, FR, bindsR FR, mCR⟩
  have NN : Num K mg 182 dF0 := ⟨F0, b_read_number F0, ln 0 (by decide)⟩
  have DD : Dy K mg 199 196 dFD := ⟨FD, bindsD FD, MkD, mCD, clD, dn 0 (by decide), dn 1 (by decide), dn 2 (by decide), dn 3 (by decide), dn 4 (by decide)⟩
  have DR : DyR K 199 := ⟨clD, dn 0 (by decide), dn 1 (by decide), dn 2 (by decide), dn 3 (by decide), dn 4 (by decide)⟩
  have T : Texts K mg 182 231 217 224 210 266 199 196 dF0 dF2 dF3 dF4 dF5 dF1 dFD :=
    ⟨NN, DD, F2, b_read_depth F2, ln 2 (by decide), F3, b_read_cut F3, ln 3 (by decide), F4, b_read_take F4, ln 4 (by decide), F5, b_read_day F5, ln 5 (by decide), F1, b_read_first F1, ln 1 (by decide), dob, deq⟩
  have BD : Bad K mg 108 105 dXCR := ⟨XCR, TCR, bnCR, biCR, btCR, mCR, bsCR, byCR⟩
  have nc : NoC K 358 := fun a ha => beq_iff_eq.mp (List.all_eq_true.mp tK a ha)
  have mCN : mg "NotARule" = some (.ref 89) := PySem.W.mg_of X G (of_isR hCN)
  have TCN : XC K 89 := xc_of PySem.F.excBase_ValueError PySem.F.store_ValueError bxCN
  have DCN : Giv K mg "NotARule" 89 86 dXCN := ⟨bg_CN XCN, TCN, bnCN, biCN, btCN, mCN, bsCN, byCN⟩
  have mCI : mg "InvalidNumber" = some (.ref 70) := PySem.W.mg_of X G (of_isR hCI)
  have TCI : XC K 70 := xc_of PySem.F.excBase_ValueError PySem.F.store_ValueError bxCI
  have DCI : Giv K mg "InvalidNumber" 70 67 dXCI := ⟨bg_CI XCI, TCI, bnCI, biCI, btCI, mCI, bsCI, byCI⟩
  have mCL : mg "NotLet" = some (.ref 159) := PySem.W.mg_of X G (of_isR hCL)
  have TCL : XC K 159 := xc_of PySem.F.excBase_ArithmeticError PySem.F.store_ArithmeticError bxCL
  have DCL : Giv K mg "NotLet" 159 156 dXCL := ⟨bg_CL XCL, TCL, bnCL, biCL, btCL, mCL, bsCL, byCL⟩
  have mCP : mg "Pile" = some (.ref 468) := PySem.W.mg_of X G (of_isR hCP)
  have clP : Cls K 468 := ⟨pgP, hdP, poP, saP⟩
  have MkP : Mk K 468 397 := ⟨mkP, miP, mfP, kpP⟩
  have mCK : mg "InvalidChoices" = some (.ref 127) := PySem.W.mg_of X G (of_isR hCK)
  have TCK : XC K 127 := xc_of PySem.F.excBase_ValueError PySem.F.store_ValueError bxCK
  have mIT : mg "InvalidText" = some (.ref 51) := PySem.W.mg_of X G (of_isR hIT)
  have E : Errs K mg cW fW (fun i => if i = 5 then dXCN else dXCK) := {
    xc := fun i _ => by
      unfold cW
      split
      · exact TCN
      · exact TCK
    i5 := biCN, t5 := btCN, i7 := biCK, t7 := btCK, g5 := mCN, F5 := XCN, F7 := XCK, n5g := bnCN, n7i := bnCK, e77 := e77, g7 := mCK }
  have Z : Rz K cW := fun i _ => by
    unfold cW
    split
    · exact ⟨bsCN, byCN⟩
    · exact ⟨bsCK, byCK⟩
  have mCl : mg "CLAIMS" = some (.ref 635) := PySem.W.mg_of X G (of_isR hClmM)
  have KD : KDict K w 635 (esC w.params) 7 := ⟨hClmK, esC_lit _, by decide⟩
  refine ⟨dF42, bind_script F42, fun base _ _ hs => ?_⟩
  have PC : PlC K 468 := ⟨clP, p0, p1⟩
  have YP : RuP K 358 295 311 319 dMRrows dMRplates dMRaway := ⟨MRrows, m_Rrows MRrows, ⟨296, ⟨paRrows, pbRrows, pcRrows, ⟨rest0, pdRrows⟩⟩⟩, MRplates, m_Rplates MRplates, ⟨312, ⟨paRplates, pbRplates, pcRplates, ⟨rest1, pdRplates⟩⟩⟩, MRaway, m_Raway MRaway, ⟨320, ⟨paRaway, pbRaway, pcRaway, ⟨rest2, pdRaway⟩⟩⟩⟩
  have Gi : FnOk l.prog w K mg base (L2.CX l.prog w) 6 397 dPI ["self", "rule"] (spPInit K 358 199 89 468) := ok_pinit (j := 2) PI B PC R I YP mC F12 (b_check_rule F12) (ln 12 (by decide)) DCN XCN
  have Gy : FnOk l.prog w K mg base (L2.CX l.prog w) 6 402 dPD ["self", "number"] (spDayP K 358 199 468 70 159) := ok_dayP (j := 2) kib PD B PC R DR F10 (b_is_integer F10) (ln 10 (by decide)) F13 (b_is_let F13) (ln 13 (by decide)) F6 (b_numbers_let F6) (ln 6 (by decide)) F9 (b_behind_day F9) (ln 9 (by decide)) F7 (b_rearranged F7) (ln 7 (by decide)) F8 (b_laid_back F8) (ln 8 (by decide)) MQlets (m_Qlets MQlets) ⟨433, ⟨paQlets, pbQlets, pcQlets, ⟨rest7, pdQlets⟩⟩⟩ MQchanges (m_Qchanges MQchanges) ⟨465, ⟨paQchanges, pbQchanges, pcQchanges, ⟨rest6, pdQchanges⟩⟩⟩ DCI XCI DCL XCL
  have PA : PlA l.prog w K mg base 358 199 468 89 70 159 397 402 dPI dPD gAW (fun i => [dMQstanding, dMQheaps, dMQuses, dMQchanges, dMQlets, dMQrow].getD i dMQstanding) := ⟨PC, mCP, MkP, b_pinit PI, Gi, ⟨atPD, fnPD, kpPD⟩, b_pday PD, Gy, ⟨⟨441, ⟨paQstanding, pbQstanding, pcQstanding, ⟨rest3, pdQstanding⟩⟩⟩, m_Qstanding MQstanding, ok_pst (j := 4) MQstanding PC⟩, ⟨⟨449, ⟨paQheaps, pbQheaps, pcQheaps, ⟨rest4, pdQheaps⟩⟩⟩, m_Qheaps MQheaps, ok_phe (j := 4) MQheaps PC⟩, ⟨⟨457, ⟨paQuses, pbQuses, pcQuses, ⟨rest5, pdQuses⟩⟩⟩, m_Quses MQuses, ok_pus (j := 4) MQuses PC⟩, ⟨⟨465, ⟨paQchanges, pbQchanges, pcQchanges, ⟨rest6, pdQchanges⟩⟩⟩, m_Qchanges MQchanges, ok_pch (j := 4) MQchanges B PC⟩, ⟨⟨433, ⟨paQlets, pbQlets, pcQlets, ⟨rest7, pdQlets⟩⟩⟩, m_Qlets MQlets, ok_plets (j := 3) MQlets B PC R DR F6 (b_numbers_let F6) (ln 6 (by decide))⟩, ⟨⟨425, ⟨paQrow, pbQrow, pcQrow, ⟨rest8, pdQrow⟩⟩⟩, m_Qrow MQrow, ok_prow (j := 2) MQrow B PC R YP⟩⟩
  have GI : FnR l.prog w K mg base CX0 5 278 (spStar 358 199) := ok_init FI B L R T BD
  have W : Drw K mg 656 663 dF22 dF23 := ⟨F22, b__law_draw F22, ln 22 (by decide), F23, b__law_of F23, ln 23 (by decide)⟩
  have mli : mg "list" = none := fr 14 (by decide)
  have msum : mg "sum" = none := fr 15 (by decide)
  have BG4 : Cl8 l.prog w K mg base "_law_begin" 698 dF28 ["_law_rows_now"] 14 (spBegin K) := ⟨ok_begin (j := 12) F28 B F27 (b__law_head F27) (ln 27 (by decide)), ln 28 (by decide), lk 28 (by decide), b__law_begin F28⟩
  have NX4 : Cl8 l.prog w K mg base "_law_next" 726 dF32 ["_law_rows_now", "_law_state", "_law_lot"] 14 (spNext K) := ⟨ok_next (j := 12) F32 B F29 (b__law_row_at F29) (ln 29 (by decide)) F31 (b__law_back F31) (ln 31 (by decide)), ln 32 (by decide), lk 32 (by decide), b__law_next F32⟩
  have SP4 : Cl8 l.prog w K mg base "_law_span" 712 dF30 ["_law_rows_now", "_law_state"] 14 (spSpan K) := ⟨ok_span (j := 12) F30 B mli F29 (b__law_row_at F29) (ln 29 (by decide)), ln 30 (by decide), lk 30 (by decide), b__law_span F30⟩
  have BG5 : Cl8 l.prog w K mg base "_law_begin" 698 dF28 ["_law_rows_now"] 15 (spBegin K) := ⟨ok_begin (j := 13) F28 B F27 (b__law_head F27) (ln 27 (by decide)), ln 28 (by decide), lk 28 (by decide), b__law_begin F28⟩
  have NX5 : Cl8 l.prog w K mg base "_law_next" 726 dF32 ["_law_rows_now", "_law_state", "_law_lot"] 15 (spNext K) := ⟨ok_next (j := 13) F32 B F29 (b__law_row_at F29) (ln 29 (by decide)) F31 (b__law_back F31) (ln 31 (by decide)), ln 32 (by decide), lk 32 (by decide), b__law_next F32⟩
  have SP5 : Cl8 l.prog w K mg base "_law_span" 712 dF30 ["_law_rows_now", "_law_state"] 15 (spSpan K) := ⟨ok_span (j := 13) F30 B mli F29 (b__law_row_at F29) (ln 29 (by decide)), ln 30 (by decide), lk 30 (by decide), b__law_span F30⟩
  have RL : Cl8 l.prog w K mg base "_law_rows" 684 dF26 ["_law_spring_here"] 15 spRowsL := ⟨ok_rowsL (j := 11) F26 B W F25 (b__law_take F25) (ln 25 (by decide)), ln 26 (by decide), lk 26 (by decide), b__law_rows F26⟩
  have LT : Cl8 l.prog w K mg base "_law_late_rows" 754 dF36 ["_law_spring_here", "_law_heads"] 16 spLate := ⟨ok_late RL F36 B W, ln 36 (by decide), lk 36 (by decide), b__law_late_rows F36⟩
  have SO : Cl8 l.prog w K mg base "_law_some_choices" 747 dF35 ["_law_spring_here", "_law_rows_now", "_law_most_now"] 16 spSome := ⟨ok_some (j := 13) BG5.G F28 (b__law_begin F28) (ln 28 (by decide)) NX5.G F32 (b__law_next F32) (ln 32 (by decide)) SP5.G F30 (b__law_span F30) (ln 30 (by decide)) F35 B W, ln 35 (by decide), lk 35 (by decide), b__law_some_choices F35⟩
  have PT : Cl8 l.prog w K mg base "_law_path" 733 dF33 ["_law_rows_now", "_law_lots"] 15 spPath := ⟨ok_path (j := 12) BG4.G F28 (b__law_begin F28) (ln 28 (by decide)) NX4.G F32 (b__law_next F32) (ln 32 (by decide)) F33 B, ln 33 (by decide), lk 33 (by decide), b__law_path F33⟩
  have QE : Cl8 l.prog w K mg base "_law_quiet_end" 780 dF40 ["_law_rows_now", "_law_spot", "_law_lots"] 16 spQuiet := ⟨ok_quiet PT F40 B, ln 40 (by decide), lk 40 (by decide), b__law_quiet_end F40⟩
  have BL : Cl8 l.prog w K mg base "_law_bent_lots" 761 dF37 ["_law_spring_here", "_law_lots"] 16 spBentL := ⟨ok_bentL F37 B W mli, ln 37 (by decide), lk 37 (by decide), b__law_bent_lots F37⟩
  have NT : Cl8 l.prog w K mg base "_law_no_table" 768 dF38 ["_law_spring_here"] 16 spNoTab := ⟨ok_noTab F38 B W, ln 38 (by decide), lk 38 (by decide), b__law_no_table F38⟩
  have IH4 : Cl8 l.prog w K mg base "_law_is_whole" 670 dF24 ["_law_thing", "_law_least", "_law_most_now"] 14 spIH := ⟨ok_ih (j := 13) F24 B, ln 24 (by decide), lk 24 (by decide), b__law_is_whole F24⟩
  have IH5 : Cl8 l.prog w K mg base "_law_is_whole" 670 dF24 ["_law_thing", "_law_least", "_law_most_now"] 15 spIH := ⟨ok_ih (j := 14) F24 B, ln 24 (by decide), lk 24 (by decide), b__law_is_whole F24⟩
  have AC5 : Cl8 l.prog w K mg base "_law_are_choices" 740 dF34 ["_law_rows_now", "_law_thing"] 15 spAreC := ⟨ok_areC BG4 NX4 SP4 IH4 F34 B, ln 34 (by decide), lk 34 (by decide), b__law_are_choices F34⟩
  have HE5 : Cl8 l.prog w K mg base "_law_head" 691 dF27 ["_law_rows_now"] 15 (spHead K) := ⟨ok_head (j := 14) F27 B, ln 27 (by decide), lk 27 (by decide), b__law_head F27⟩
  have HE6 : Cl8 l.prog w K mg base "_law_head" 691 dF27 ["_law_rows_now"] 16 (spHead K) := ⟨ok_head (j := 15) F27 B, ln 27 (by decide), lk 27 (by decide), b__law_head F27⟩
  have DUR : Cl8 l.prog w K mg base "_law_due_rested" 773 dF39 ["_law_rows_now", "_law_spot", "_law_lots", "_law_bound"] 16 spDueR := ⟨ok_dueR AC5 IH5 PT HE5 F39 B, ln 39 (by decide), lk 39 (by decide), b__law_due_rested F39⟩
  have CCD : Cl8X l.prog w K mg base "check_choices" 383 dF14 ["rule", "choices"] 8 (spChoicesD 358 199 cW) := ⟨ok_choicesD (j := 5) E Z (ok_isLet (j := 5) kib F13 B F10 (b_is_integer F10) (ln 10 (by decide))) F13 (b_is_let F13) (ln 13 (by decide)) (ok_lets (j := 6) F6 B DR) F6 (b_numbers_let F6) (ln 6 (by decide)) F14 B msum R YP, ln 14 (by decide), lk 14 (by decide), b_check_choices F14⟩
  have IWD : Cl8 l.prog w K mg base "integer_within" 175 dF11 ["value", "least", "most"] 10 spWithD := ⟨ok_withD (j := 8) (⟨ok_intD (j := 8) F10 B, ln 10 (by decide), lk 10 (by decide), b_is_integer F10⟩ : Cl8 l.prog w K mg base "is_integer" 168 dF10 ["value"] 9 spIntD) F11, ln 11 (by decide), lk 11 (by decide), b_integer_within F11⟩
  have LPD : Cl8X l.prog w K mg base "led_pile" 479 dF15 ["rule", "choices"] 9 (spLedPileD 358 199 468 cW) := ⟨ok_ledpileD nc CCD F15 PA, ln 15 (by decide), lk 15 (by decide), b_led_pile F15⟩
  have COU : Cl8X l.prog w K mg base "course" 484 dF16 ["rule", "choices"] 9 (spLedD 358 199 cW courseOf) := ⟨ok_courseD B nc CCD F16 PA, ln 16 (by decide), lk 16 (by decide), b_course F16⟩
  have EM : Cl8 l.prog w K mg base "is_empty" 527 dF17 ["certificate"] 10 spEmpty := ⟨ok_empty (j := 9) F17 B, ln 17 (by decide), lk 17 (by decide), b_is_empty F17⟩
  have PB : Cl8 l.prog w K mg base "pile_behind" 541 dF18 ["rule", "choices"] 10 (spPileB 358 199 468) := ⟨ok_pileB E LPD F18, ln 18 (by decide), lk 18 (by decide), b_pile_behind F18⟩
  have AR : Cl8 l.prog w K mg base "accepts_rested" 596 dF19 ["rule", "told", "certificate"] 11 (spAccR 358 199) := ⟨ok_accR B R YP IWD EM PB COU F19, ln 19 (by decide), lk 19 (by decide), b_accepts_rested F19⟩
  have ACC : Cl8 l.prog w K mg base "accepts" 642 dF20 ["claim", "certificate"] 12 spAcc := ⟨ok_acc B Y GI AR KD mCl hClmN mIT F20, ln 20 (by decide), lk 20 (by decide), b_accepts F20⟩
  have GRt : FnG l.prog w K mg base CX0 17 787 dF41 ["_law_spring_here"] spRight := ok_right F41 B W hs LT SO QE BL NT DUR HE6 ACC (kb_accepts F20)
  exact ok_law F42 B (ln 41 (by decide)) (lk 41 (by decide)) (b__law_right F41) GRt (ln 21 (by decide)) (lk 21 (by decide)) (b__law_spring F21) (ok_spring (j := 16) F21 B)
end PW
set_option maxHeartbeats 0
open PySem PySem.W PyProof.Rows
def PySem.W.Fast.tw2803619799895954377 : Nat := 0
def PySem.W.Fast.tw5563894550437047053 : Nat := 0
def PySem.W.Fast.tw6391060646304029637 : Nat := 0
def PySem.W.Fast.tw15740946813356176064 : Nat := 0
def PySem.W.Fast.tw10553583417494983041 : Nat := 0
def PySem.W.Fast.tw1105849922595519749 : Nat := 0
def PySem.W.Fast.tw11572610916840648655 : Nat := 0
def PySem.W.Fast.tw3502946498511415471 : Nat := 0
def PySem.W.Fast.tw3669643040862212366 : Nat := 0
def PySem.W.Fast.tw17190986275630873929 : Nat := 0
open_top PW.head55 for PySem.Challenge.rw_pileworn_k55_whole_long_rests_judged
open PySem PySem.W PyProof.Rows
set_option maxRecDepth 100000 in
set_option maxHeartbeats 0 in
theorem PySem.Challenge.cw_pileworn_k55_whole_long_rests_judged_holds : PySem.Challenge.rw_pileworn_k55_whole_long_rests_judged.Holds := by
  refine PW.head55 ?_
  k_fill
  refine PW.walkG (l := PySem.Challenge.rw_pileworn_k55_whole_long_rests_judged) (sp := fun K => PW.spLaw K) (k := 18) (x := "_law_script") rfl (by decide) rfl ?Q ⟨rfl, by decide, by decide⟩ (fun w h Y => PySem.W.kIn_of Y) ?F ?S
  case Q => kernel_rfl
  case S =>
    intro K H a ns hl _ hS
    exact ⟨a, ns, rfl, hS, hl, fun _ => rfl⟩
  case F =>
    intro w mg fa h KX G hmg
    refine' PW.all_mk KX G hmg ?tF ?tL ?tN ?tT ?tD ?F0 ?F1 ?F2 ?F3 ?F4 ?F5 ?F6 ?F7 ?F8 ?F9 ?F10 ?F11 ?F12 ?F13 ?F14 ?F15 ?F16 ?F17 ?F18 ?F19 ?F20 ?F21 ?F22 ?F23 ?F24 ?F25 ?F26 ?F27 ?F28 ?F29 ?F30 ?F31 ?F32 ?F33 ?F34 ?F35 ?F36 ?F37 ?F38 ?F39 ?F40 ?F41 ?F42 ?hC ?hCD ?pgC ?hdC ?poC ?saC ?mkC ?miC ?mfC ?kpC ?n0 ?n1 ?n2 ?n3 ?ha ?hn ?htk ?hm ?rd ?ga ?cm ?rc ?rf ?pgD ?hdD ?poD ?saD ?mkD ?miD ?mfD ?kpD ?dob ?deq ?FI ?FR ?FD ?hCR ?bxCR ?bsCR ?byCR ?bnCR ?biCR ?btCR ?XCR ?tK ?paRrows ?pbRrows ?pcRrows ?pdRrows ?MRrows ?paRplates ?pbRplates ?pcRplates ?pdRplates ?MRplates ?paRaway ?pbRaway ?pcRaway ?pdRaway ?MRaway ?hCN ?bxCN ?bsCN ?byCN ?bnCN ?biCN ?btCN ?XCN ?hCI ?bxCI ?bsCI ?byCI ?bnCI ?biCI ?btCI ?XCI ?hCL ?bxCL ?bsCL ?byCL ?bnCL ?biCL ?btCL ?XCL ?hCP ?pgP ?hdP ?poP ?saP ?mkP ?miP ?mfP ?kpP ?p0 ?p1 ?kib ?PI ?atPD ?fnPD ?kpPD ?PD ?paQstanding ?pbQstanding ?pcQstanding ?pdQstanding ?MQstanding ?paQheaps ?pbQheaps ?pcQheaps ?pdQheaps ?MQheaps ?paQuses ?pbQuses ?pcQuses ?pdQuses ?MQuses ?paQchanges ?pbQchanges ?pcQchanges ?pdQchanges ?MQchanges ?paQlets ?pbQlets ?pcQlets ?pdQlets ?MQlets ?paQrow ?pbQrow ?pcQrow ?pdQrow ?MQrow ?hCK ?bxCK ?bsCK ?byCK ?bnCK ?biCK ?btCK ?XCK ?hIT ?e77 ?hClmK ?hClmN ?hClmM
    (case tF => kernel_rfl)
    (case tL => kernel_rfl)
    (case tN => kernel_rfl)
    (case tT => kernel_rfl)
    (case tD => kernel_rfl)
    (case F0 => (refine' ⟨_, L2.fun_mk ?l ?c ?k⟩; (case l => k_is); (case c => k_is); (case k => k_is)))
    (case F1 => (refine' ⟨_, L2.fun_mk ?l ?c ?k⟩; (case l => k_is); (case c => k_is); (case k => k_is)))
    (case F2 => (refine' ⟨_, L2.fun_mk ?l ?c ?k⟩; (case l => k_is); (case c => k_is); (case k => k_is)))
    (case F3 => (refine' ⟨_, L2.fun_mk ?l ?c ?k⟩; (case l => k_is); (case c => k_is); (case k => k_is)))
    (case F4 => (refine' ⟨_, L2.fun_mk ?l ?c ?k⟩; (case l => k_is); (case c => k_is); (case k => k_is)))
    (case F5 => (refine' ⟨_, L2.fun_mk ?l ?c ?k⟩; (case l => k_is); (case c => k_is); (case k => k_is)))
    (case F6 => (refine' ⟨_, L2.fun_mk ?l ?c ?k⟩; (case l => k_is); (case c => k_is); (case k => k_is)))
    (case F7 => (refine' ⟨_, L2.fun_mk ?l ?c ?k⟩; (case l => k_is); (case c => k_is); (case k => k_is)))
    (case F8 => (refine' ⟨_, L2.fun_mk ?l ?c ?k⟩; (case l => k_is); (case c => k_is); (case k => k_is)))
    (case F9 => (refine' ⟨_, L2.fun_mk ?l ?c ?k⟩; (case l => k_is); (case c => k_is); (case k => k_is)))
    (case F10 => (refine' ⟨_, L2.fun_mk ?l ?c ?k⟩; (case l => k_is); (case c => k_is); (case k => k_is)))
    (case F11 => (refine' ⟨_, L2.fun_mk ?l ?c ?k⟩; (case l => k_is); (case c => k_is); (case k => k_is)))
    (case F12 => (refine' ⟨_, L2.fun_mk ?l ?c ?k⟩; (case l => k_is); (case c => k_is); (case k => k_is)))
    (case F13 => (refine' ⟨_, L2.fun_mk ?l ?c ?k⟩; (case l => k_is); (case c => k_is); (case k => k_is)))
    (case F14 => (refine' ⟨_, L2.fun_mk ?l ?c ?k⟩; (case l => k_is); (case c => k_is); (case k => k_is)))
    (case F15 => (refine' ⟨_, L2.fun_mk ?l ?c ?k⟩; (case l => k_is); (case c => k_is); (case k => k_is)))
    (case F16 => (refine' ⟨_, L2.fun_mk ?l ?c ?k⟩; (case l => k_is); (case c => k_is); (case k => k_is)))
    (case F17 => (refine' ⟨_, L2.fun_mk ?l ?c ?k⟩; (case l => k_is); (case c => k_is); (case k => k_is)))
    (case F18 => (refine' ⟨_, L2.fun_mk ?l ?c ?k⟩; (case l => k_is); (case c => k_is); (case k => k_is)))
    (case F19 => (refine' ⟨_, L2.fun_mk ?l ?c ?k⟩; (case l => k_is); (case c => k_is); (case k => k_is)))
    (case F20 => (refine' ⟨_, L2.fun_mk ?l ?c ?k⟩; (case l => k_is); (case c => k_is); (case k => k_is)))
    (case F21 => (refine' ⟨_, L2.fun_mk ?l ?c ?k⟩; (case l => k_is); (case c => k_is); (case k => k_is)))
    (case F22 => (refine' ⟨_, L2.fun_mk ?l ?c ?k⟩; (case l => k_is); (case c => k_is); (case k => k_is)))
    (case F23 => (refine' ⟨_, L2.fun_mk ?l ?c ?k⟩; (case l => k_is); (case c => k_is); (case k => k_is)))
    (case F24 => (refine' ⟨_, L2.fun_mk ?l ?c ?k⟩; (case l => k_is); (case c => k_is); (case k => k_is)))
    (case F25 => (refine' ⟨_, L2.fun_mk ?l ?c ?k⟩; (case l => k_is); (case c => k_is); (case k => k_is)))
    (case F26 => (refine' ⟨_, L2.fun_mk ?l ?c ?k⟩; (case l => k_is); (case c => k_is); (case k => k_is)))
    (case F27 => (refine' ⟨_, L2.fun_mk ?l ?c ?k⟩; (case l => k_is); (case c => k_is); (case k => k_is)))
    (case F28 => (refine' ⟨_, L2.fun_mk ?l ?c ?k⟩; (case l => k_is); (case c => k_is); (case k => k_is)))
    (case F29 => (refine' ⟨_, L2.fun_mk ?l ?c ?k⟩; (case l => k_is); (case c => k_is); (case k => k_is)))
    (case F30 => (refine' ⟨_, L2.fun_mk ?l ?c ?k⟩; (case l => k_is); (case c => k_is); (case k => k_is)))
    (case F31 => (refine' ⟨_, L2.fun_mk ?l ?c ?k⟩; (case l => k_is); (case c => k_is); (case k => k_is)))
    (case F32 => (refine' ⟨_, L2.fun_mk ?l ?c ?k⟩; (case l => k_is); (case c => k_is); (case k => k_is)))
    (case F33 => (refine' ⟨_, L2.fun_mk ?l ?c ?k⟩; (case l => k_is); (case c => k_is); (case k => k_is)))
    (case F34 => (refine' ⟨_, L2.fun_mk ?l ?c ?k⟩; (case l => k_is); (case c => k_is); (case k => k_is)))
    (case F35 => (refine' ⟨_, L2.fun_mk ?l ?c ?k⟩; (case l => k_is); (case c => k_is); (case k => k_is)))
    (case F36 => (refine' ⟨_, L2.fun_mk ?l ?c ?k⟩; (case l => k_is); (case c => k_is); (case k => k_is)))
    (case F37 => (refine' ⟨_, L2.fun_mk ?l ?c ?k⟩; (case l => k_is); (case c => k_is); (case k => k_is)))
    (case F38 => (refine' ⟨_, L2.fun_mk ?l ?c ?k⟩; (case l => k_is); (case c => k_is); (case k => k_is)))
    (case F39 => (refine' ⟨_, L2.fun_mk ?l ?c ?k⟩; (case l => k_is); (case c => k_is); (case k => k_is)))
    (case F40 => (refine' ⟨_, L2.fun_mk ?l ?c ?k⟩; (case l => k_is); (case c => k_is); (case k => k_is)))
    (case F41 => (refine' ⟨_, L2.fun_mk ?l ?c ?k⟩; (case l => k_is); (case c => k_is); (case k => k_is)))
    (case F42 => (refine' ⟨_, L2.fun_mk ?l ?c ?k⟩; (case l => k_is); (case c => k_is); (case k => k_is)))
    (case hC => kernel_rfl)
    (case hCD => kernel_rfl)
    (case pgC => kernel_rfl)
    (case hdC => kernel_rfl)
    (case poC => kernel_rfl)
    (case saC => kernel_rfl)
    (case mkC => kernel_rfl)
    (case miC => kernel_rfl)
    (case mfC => kernel_rfl)
    (case kpC => kernel_rfl)
    (case n0 => kernel_rfl)
    (case n1 => kernel_rfl)
    (case n2 => kernel_rfl)
    (case n3 => kernel_rfl)
    (case ha => kernel_rfl)
    (case hn => kernel_rfl)
    (case htk => kernel_rfl)
    (case hm => kernel_rfl)
    (case rd => kernel_rfl)
    (case ga => kernel_rfl)
    (case cm => kernel_rfl)
    (case rc => k_is)
    (case rf => kernel_rfl)
    (case pgD => kernel_rfl)
    (case hdD => kernel_rfl)
    (case poD => kernel_rfl)
    (case saD => kernel_rfl)
    (case mkD => kernel_rfl)
    (case miD => kernel_rfl)
    (case mfD => kernel_rfl)
    (case kpD => kernel_rfl)
    (case dob => kernel_rfl)
    (case deq => kernel_rfl)
    (case FI => (refine' ⟨_, L2.fun_mk ?l ?c ?k⟩; (case l => k_is); (case c => k_is); (case k => k_is)))
    (case FR => (refine' ⟨_, L2.fun_mk ?l ?c ?k⟩; (case l => k_is); (case c => k_is); (case k => k_is)))
    (case FD => (refine' ⟨_, L2.fun_mk ?l ?c ?k⟩; (case l => k_is); (case c => k_is); (case k => k_is)))
    (case hCR => kernel_rfl)
    (case bxCR => kernel_rfl)
    (case bsCR => kernel_rfl)
    (case byCR => kernel_rfl)
    (case bnCR => kernel_rfl)
    (case biCR => kernel_rfl)
    (case btCR => kernel_rfl)
    (case XCR => (refine' ⟨_, L2.fun_mk ?l ?c ?k⟩; (case l => k_is); (case c => k_is); (case k => k_is)))
    (case tK => kernel_rfl)
    (case paRrows => kernel_rfl)
    (case pbRrows => kernel_rfl)
    (case pcRrows => kernel_rfl)
    (case pdRrows => k_is)
    (case MRrows => (refine' ⟨_, L2.fun_mk ?l ?c ?k⟩; (case l => k_is); (case c => k_is); (case k => k_is)))
    (case paRplates => kernel_rfl)
    (case pbRplates => kernel_rfl)
    (case pcRplates => kernel_rfl)
    (case pdRplates => k_is)
    (case MRplates => (refine' ⟨_, L2.fun_mk ?l ?c ?k⟩; (case l => k_is); (case c => k_is); (case k => k_is)))
    (case paRaway => kernel_rfl)
    (case pbRaway => kernel_rfl)
    (case pcRaway => kernel_rfl)
    (case pdRaway => k_is)
    (case MRaway => (refine' ⟨_, L2.fun_mk ?l ?c ?k⟩; (case l => k_is); (case c => k_is); (case k => k_is)))
    (case hCN => kernel_rfl)
    (case bxCN => kernel_rfl)
    (case bsCN => kernel_rfl)
    (case byCN => kernel_rfl)
    (case bnCN => kernel_rfl)
    (case biCN => kernel_rfl)
    (case btCN => kernel_rfl)
    (case XCN => (refine' ⟨_, L2.fun_mk ?l ?c ?k⟩; (case l => k_is); (case c => k_is); (case k => k_is)))
    (case hCI => kernel_rfl)
    (case bxCI => kernel_rfl)
    (case bsCI => kernel_rfl)
    (case byCI => kernel_rfl)
    (case bnCI => kernel_rfl)
    (case biCI => kernel_rfl)
    (case btCI => kernel_rfl)
    (case XCI => (refine' ⟨_, L2.fun_mk ?l ?c ?k⟩; (case l => k_is); (case c => k_is); (case k => k_is)))
    (case hCL => kernel_rfl)
    (case bxCL => kernel_rfl)
    (case bsCL => kernel_rfl)
    (case byCL => kernel_rfl)
    (case bnCL => kernel_rfl)
    (case biCL => kernel_rfl)
    (case btCL => kernel_rfl)
    (case XCL => (refine' ⟨_, L2.fun_mk ?l ?c ?k⟩; (case l => k_is); (case c => k_is); (case k => k_is)))
    (case hCP => kernel_rfl)
    (case pgP => kernel_rfl)
    (case hdP => kernel_rfl)
    (case poP => kernel_rfl)
    (case saP => kernel_rfl)
    (case mkP => kernel_rfl)
    (case miP => kernel_rfl)
    (case mfP => kernel_rfl)
    (case kpP => kernel_rfl)
    (case p0 => kernel_rfl)
    (case p1 => kernel_rfl)
    (case kib => kernel_rfl)
    (case PI => (refine' ⟨_, L2.fun_mk ?l ?c ?k⟩; (case l => k_is); (case c => k_is); (case k => k_is)))
    (case atPD => kernel_rfl)
    (case fnPD => kernel_rfl)
    (case kpPD => kernel_rfl)
    (case PD => (refine' ⟨_, L2.fun_mk ?l ?c ?k⟩; (case l => k_is); (case c => k_is); (case k => k_is)))
    (case paQstanding => kernel_rfl)
    (case pbQstanding => kernel_rfl)
    (case pcQstanding => kernel_rfl)
    (case pdQstanding => k_is)
    (case MQstanding => (refine' ⟨_, L2.fun_mk ?l ?c ?k⟩; (case l => k_is); (case c => k_is); (case k => k_is)))
    (case paQheaps => kernel_rfl)
    (case pbQheaps => kernel_rfl)
    (case pcQheaps => kernel_rfl)
    (case pdQheaps => k_is)
    (case MQheaps => (refine' ⟨_, L2.fun_mk ?l ?c ?k⟩; (case l => k_is); (case c => k_is); (case k => k_is)))
    (case paQuses => kernel_rfl)
    (case pbQuses => kernel_rfl)
    (case pcQuses => kernel_rfl)
    (case pdQuses => k_is)
    (case MQuses => (refine' ⟨_, L2.fun_mk ?l ?c ?k⟩; (case l => k_is); (case c => k_is); (case k => k_is)))
    (case paQchanges => kernel_rfl)
    (case pbQchanges => kernel_rfl)
    (case pcQchanges => kernel_rfl)
    (case pdQchanges => k_is)
    (case MQchanges => (refine' ⟨_, L2.fun_mk ?l ?c ?k⟩; (case l => k_is); (case c => k_is); (case k => k_is)))
    (case paQlets => kernel_rfl)
    (case pbQlets => kernel_rfl)
    (case pcQlets => kernel_rfl)
    (case pdQlets => k_is)
    (case MQlets => (refine' ⟨_, L2.fun_mk ?l ?c ?k⟩; (case l => k_is); (case c => k_is); (case k => k_is)))
    (case paQrow => kernel_rfl)
    (case pbQrow => kernel_rfl)
    (case pcQrow => kernel_rfl)
    (case pdQrow => k_is)
    (case MQrow => (refine' ⟨_, L2.fun_mk ?l ?c ?k⟩; (case l => k_is); (case c => k_is); (case k => k_is)))
    (case hCK => kernel_rfl)
    (case bxCK => kernel_rfl)
    (case bsCK => kernel_rfl)
    (case byCK => kernel_rfl)
    (case bnCK => kernel_rfl)
    (case biCK => kernel_rfl)
    (case btCK => kernel_rfl)
    (case XCK => (refine' ⟨_, L2.fun_mk ?l ?c ?k⟩; (case l => k_is); (case c => k_is); (case k => k_is)))
    (case hIT => kernel_rfl)
    (case e77 => kernel_rfl)
    (case hClmK => kernel_rfl)
    (case hClmN => kernel_rfl)
    (case hClmM => kernel_rfl)
