import PyProof.Rows.All
import Wide.All
import OpenK.AllK
import Wide.FinOn
import HandS.ForMost
import HandS.ForExc
import HandS.ExcInit
import HandS.Evl
import HandS.WideBits
import HandS.IsInst
import KE.KExcLine
import KE.KExcIs
import PyProof.ReprRoads
import PyProof.Rows.CountFlat
import HandS.Deep
import HandS.Star
import HandS.ClsMeth
import HandS.Property
import HandS.SlotsOwn
import HandS.FStr
import HandS.Text
import HandS.Strs
import HandS.TryElse
import HandS.Small
import KE.KFmtOwn
import PyProof.InstEq
import HandS.ExcValue
import HandS.HotCalls
import HandS.ExcCtx
import HandS.More
import PySem.Challenge.RW_pileworn_k02_rules_made
set_option Elab.async false
set_option linter.all false
set_option maxRecDepth 100000
set_option maxHeartbeats 4000000
/-! PW0: defs that are called where no repr is under way; repr of plain data -/
namespace PW
open PySem PySem.Spec PyProof.Rows L2

/-- no guarded built-in is under way -/
def Still (A : Around) : Prop := A.guards = some []

/-- a def's promise, kept where A is still -/
structure FnG (P : Program) (w : World) (K : PySem.W.Frag) (mg : Str → Option Value) (base : Heap)
    (CX : CXT) (k : Nat) (f : Addr) (fd : FuncData) (ps : List Str) (sp : Sp) : Prop where
  arity : ∀ vs H Q E, sp vs H Q E → vs.length = ps.length
  goes : ∀ (A : Around) (outer : List Env) (s : Shared) (H : Hp) (args : Args) (us : List Value)
    (vs : List V) (Q : VK) (E : XK), Still A → Room k A → Env0 P w K mg base A outer s H →
    BindsTo s fd args (ps.zip us) → Vals vs us → sp vs H Q E →
    codeAny (model P w) A (.call (.ref f) args) (CR CX outer P w H s Q E) s

theorem FnG.of {P : Program} {w : World} {K : PySem.W.Frag} {mg : Str → Option Value} {base : Heap}
    {CX : CXT} {k : Nat} {f : Addr} {fd : FuncData} {ps : List Str} {sp : Sp}
    (F : FnOk P w K mg base CX k f fd ps sp) : FnG P w K mg base CX k f fd ps sp :=
  ⟨F.len, fun A outer s H args us vs Q E _ => F.run A outer s H args us vs Q E⟩

section
variable {P : Program} {w : World} {K : PySem.W.Frag} {mg : Str → Option Value} {base : Heap}
/-- THE RULE for a def that wants stillness -/
theorem okG {x qual : Str} {st : Stmt} {f : Addr} {fd : FuncData} {N ps : List Str} {k : Nat} {sp : Sp}
    (F : Fun K x qual st f fd) (S : FnScope N ps (defScope st)) (len : ∀ vs H Q E, sp vs H Q E → vs.length = ps.length)
    (hbody : ∀ (cdv : Value) (A : Around) (outer : List Env) (s : Shared) (H : Hp) (vs : List V) (Q : VK) (E : XK),
      Still (A.deeper (envOfC qual (defScope st) s.heap.objs.size f cdv)) →
      Room k (A.deeper (envOfC qual (defScope st) s.heap.objs.size f cdv)) → sp vs H Q E →
      ∃ t, PSs (cxOf CX0 P w K mg base N qual (defScope st) f cdv A outer s H E).nox (defBody st) t ∧
        t { nx := fun _ H' => Q .non H', rt := Q } (start N vs) H) :
    FnG P w K mg base CX0 (k + 1) f fd ps sp := by
  obtain ⟨oc, od, kV, doc, pm, an, cdv, ct, osl, rfl, lk, hcd⟩ := F.ex
  refine ⟨len, ?_⟩
  intro A outer s H args us vs Q E still room env bnd rel hsp
  have hl := len _ _ _ _ hsp
  have kept : ∀ b o, base.get? b = some o → s.heap.get? b = some o := fun b o e => (env.bs b o e).1
  have KX : K.In s.heap := env.mod.kin.keeps kept
  have pars : ∀ y ∈ ps.zip us, (defScope st).names.lookup y.1 = some .local ∨
      ((defScope st).names.lookup y.1 = some .cell ∧
        ((cellsFrom (s.heap.objs.size + 1) (defScope st).names []).lookup y.1).isSome = true) := by
    intro y hy
    obtain ⟨n, v⟩ := y
    exact (S.par n (List.of_mem_zip hy).1).imp id fun q => ⟨q, PySem.W.cellsFrom_some _ _ _ (.inl q)⟩
  refine codeAny_call_function room.depth (KX _ _ lk) rfl S.co S.gen rfl
    (PySem.W.codeRec_of KX hcd) (bnd _ _ _ _ ?_)
  refine wpAny_newFunctionEnv_cells S.kind pars ?_
  intro env' he s1 x
  subst he
  refine ⟨(env.mod.nolimit.keeps kept).keeps x.toInCall.keep, codeAny_func ?_⟩
  obtain ⟨t, ht, hq⟩ := hbody cdv A outer s H vs Q E still (room.deeper _) hsp
  refine wpAny_mono (ht.nox.run [] s1 (start N vs) H _
    (inv_start S room.hd env hl rel x) hq) ?_ (fun _ _ z => z)
  intro fl s' hs
  cases fl with
  | ret u =>
    obtain ⟨v, σ', H', J, rv, q⟩ := hs
    exact ⟨v, H', J.os, J.bare, J.base, J.hok, rv, q⟩
  | next =>
    obtain ⟨σ', H', J, q⟩ := hs
    exact ⟨V.non, H', J.os, J.bare, J.base, J.hok, rfl, q⟩
  | brk => exact hs.elim fun _ z => z.elim fun _ z => z.2.elim
  | cont => exact hs.elim fun _ z => z.elim fun _ z => z.2.elim
end

section
variable {X : Cx} {CX : CXT} {k : Nat} {f C : Addr} {fd : FuncData} {ps : List Str} {sp : Sp} {dvs : List V}
  {ds : List Value} {E : XK} {x m : Str} {p pos apos : Pos} {e o : Expr} {es : List Expr} {ta : TE} {t : TA}
/-- f(e, ..) of such a def -/
theorem pe_callG (F : FnG X.prog X.w X.K X.mg X.base CX k f fd ps sp) (st : Still X.A) (hr : Room k X.A)
    (hg : Gl X x) (hm : X.mg x = some (.ref f)) (hk : PySem.W.keepIn X.K (.ref f) = true)
    (hb : Binds X.K fd ps ds) (hd : Vals dvs ds) (hx : Passes CX X E) (ha : PA X (e :: es) t)
    (hdb : (x == ("__debug__" : Str)) = false := by decide)
    (he : starEach (e :: es) X.env = (false, eval e X.env) :: starEach es X.env := by rfl)
    (hpl : (backTo pos (starEach es X.env)).any (·.1) = false := by rfl) :
    PE X (.Call (.Name x p) (e :: es) [] pos) (tCall sp dvs E t) := by
  constructor
  intro pins s σ H Q I h
  refine wpAny_Call_Name_kw (ld_glob I hg hm ?_ hdb)
  refine PySem.W.callWith_K (h₀ := X.base) I.ok.mod.kin hk (thn (ha.run pos pins s σ H _ I h) ?_) he hpl
  rintro us s1 ⟨vs, H1, I1, r, q⟩
  refine ⟨I1.kIn, ?_⟩
  have rr := r.append hd
  have hl : (us ++ ds).length = ps.length := rr.length.symm.trans (F.arity _ _ _ _ q)
  refine wpAny_call (codeAny_mono (F.goes X.A X.stack s1 H1 ⟨us, []⟩ (us ++ ds) (vs ++ dvs) Q E st hr
    I1.env0 (hb s1 us I1.kIn hl) rr q) ?_)
  intro r s' hq
  match r, hq with
  | .error er, hq => exact hx pins σ H1 s1 er s' I1 hq
  | .ok (.ret u), hq => exact I1.after hq
  | .ok .next, hq => exact False.elim hq
  | .ok .brk, hq => exact False.elim hq
  | .ok .cont, hq => exact False.elim hq
end

/-! ### a law's end, where its def wants stillness -/
theorem still_caller : Still callerA := rfl
section
variable {P : Program} {w : World} {K : PySem.W.Frag} {mg mb : Str → Option Value} {k : Nat} {fa a : Addr}
  {fd : FuncData} {x : Str} {sp : Sp} {s1 : Shared} {vs : List Value} {ns : List Int}
/-- the call over one abstract heap, in which at most the script is tracked -/
theorem law_core (KX : K.In s1.heap) (hns : s1.heap.Ns mainGlobals mg) (hb : s1.heap.Ns builtinsNs mb)
    (hbb : ∀ x : Str, x ≠ "__name__" → mb x = bootBuiltins x) (hlim : s1.heap.NoLimit) (hg : s1.gens = #[])
    {mm : Str → Option Value} (hsys : s1.heap.Ns sysModules mm)
    (hr : Room k callerA)
    (F : ∀ base : Heap, K.In base → base.Ns mainGlobals mg → (base.get? sysModules).isSome = true → FnG P w K mg base CX0 k fa fd [x] sp)
    (hbind : ∀ (s : Shared) (u : Value), BindsTo s fd ⟨[u], []⟩ [(x, u)])
    (H : Hp) (only : Only H) (hok : HOk P w H s1.heap)
    (nodict : ∀ b o es ep, s1.heap.get? b = some o → o.data = .dict es ep → H b = none)
    (noK : ∀ b o, K.lookup b = some o → H b = none)
    (hsp : sp [.ref a] H (fun v _ => v = .bl true) fun _ _ _ => False) :
    codeAny (model P w) callerA (.call (.ref fa) ⟨[.ref a], []⟩)
      (fun r s' => r = .ok (.ret (.bool true)) ∧ OldK s1.heap s'.heap ∧ s'.os = s1.os ∧ AllBare s'.gens) s1 := by
  have nsK : ∀ {b : Addr} {m : Str → Option Value}, s1.heap.Ns b m → (hidT s1.heap H).Ns b m := by
    rintro b m ⟨o, es, ep, e, d, r⟩
    exact ⟨o, es, ep, hidT_get e (nodict b o es ep e d), d, r⟩
  have kin : K.In (hidT s1.heap H) := fun b o e => hidT_get (KX b o e) (noK b o e)
  have mo : Mod K mg (hidT s1.heap H) :=
    ⟨kin, nsK hns, ⟨mb, nsK hb, hbb⟩, hlim.elim fun mc q => ⟨mc, nsK q.1, q.2⟩⟩
  have en : Env0 P w K mg (hidT s1.heap H) callerA [] s1 H :=
    { frames := rfl, mod := mo, bs := fun b o e => of_hidT e, bsz := Nat.le_of_eq (hidT_size _ _),
      funs := trivial, frf := fun b z => absurd (show b ∈ ([] : List Addr) from z) (by simp), hok := hok,
      bare := .of_eq hg }
  have sys : ((hidT s1.heap H).get? sysModules).isSome = true := by
    obtain ⟨o, _, _, e, _⟩ := nsK hsys
    rw [e]
    rfl
  refine codeAny_mono ((F _ kin (nsK hns) sys).goes callerA [] s1 H ⟨[.ref a], []⟩ [.ref a] [.ref a] _ _
    still_caller hr en (hbind s1 (.ref a)) (.cons rfl .nil) hsp) ?_
  intro r s' h
  match r, h with
  | .error e, h => exact False.elim h
  | .ok .next, h => exact False.elim h
  | .ok .brk, h => exact False.elim h
  | .ok .cont, h => exact False.elim h
  | .ok (.ret u), h =>
    obtain ⟨v, H', os, bare, un, hok', r', rfl⟩ := h
    obtain rfl : u = Value.bool true := r'
    refine ⟨rfl, OldK.of_keep ?_, os, bare⟩
    intro b o e
    rcases only b with z | ⟨ob, xs, z⟩
    · exact un.keep b o e z (fun q => absurd (show b ∈ ([] : List Addr) from q) (by simp)) (by simp)
    · have old := (hok b _ z).1
      have new := (hok' b _ (un.frzs b ob _ z)).1
      exact new.trans (old.symm.trans e)
/-- .. the script tracked, or one of the module's own objects -/
theorem law_callG (KX : K.In s1.heap) (hns : s1.heap.Ns mainGlobals mg) (hb : s1.heap.Ns builtinsNs mb)
    (hbb : ∀ x : Str, x ≠ "__name__" → mb x = bootBuiltins x) (hlim : s1.heap.NoLimit) (hg : s1.gens = #[])
    {mm : Str → Option Value} (hsys : s1.heap.Ns sysModules mm)
    (ha : s1.heap.get? a = some { cls := .type "list", data := .seq vs.toArray }) (hi : IntsAre vs ns)
    (hl : ns.length ≤ sizeLine) (hr : Room k callerA)
    (F : ∀ base : Heap, K.In base → base.Ns mainGlobals mg → (base.get? sysModules).isSome = true → FnG P w K mg base CX0 k fa fd [x] sp)
    (hbind : ∀ (s : Shared) (u : Value), BindsTo s fd ⟨[u], []⟩ [(x, u)])
    (hsp : ∀ H : Hp, Only H → SqL K H a (ns.map V.int) → sp [.ref a] H (fun v _ => v = .bl true) fun _ _ _ => False) :
    codeAny (model P w) callerA (.call (.ref fa) ⟨[.ref a], []⟩)
      (fun r s' => r = .ok (.ret (.bool true)) ∧ OldK s1.heap s'.heap ∧ s'.os = s1.os ∧ AllBare s'.gens) s1 := by
  have rv := vals_ints hi
  have lenV := hi.length
  cases hk : K.lookup a with
  | some o =>
    obtain rfl := Option.some.inj (ha.symm.trans (KX a o hk))
    refine law_core KX hns hb hbb hlim hg hsys hr F hbind (fun _ => none) (fun _ => .inl rfl) (fun b u z => nomatch z)
      (fun _ _ _ _ _ _ => rfl) (fun _ _ _ => rfl) (hsp _ (fun _ => .inl rfl) (.inr ⟨_, vs.toArray, _, hk, rfl, rfl, rfl, ?_, ?_⟩))
    · rw [List.size_toArray, lenV]
      exact hl
    · simpa using rv
  | none =>
    let ob : Obj := { cls := .type "list", data := .seq vs.toArray }
    let H : Hp := fun b => if b = a then some (.frz ob (.lst (ns.map V.int))) else none
    have at_a : H a = some (.frz ob (.lst (ns.map V.int))) := if_pos rfl
    have off : ∀ {b}, b ≠ a → H b = none := fun h => if_neg h
    have only : Only H := fun b => by
      by_cases q : b = a
      · exact .inr ⟨ob, _, q ▸ at_a⟩
      · exact .inl (off q)
    refine law_core KX hns hb hbb hlim hg hsys hr F hbind H only (fun b u z => ?_) (fun b o es ep e d => ?_)
      (fun b o e => off fun q => ?_) (hsp H only (.inl (.inr ⟨ob, at_a⟩)))
    · by_cases q : b = a
      · subst q
        obtain rfl := Option.some.inj (at_a.symm.trans z)
        exact ⟨ha, by rw [List.length_map]; exact hl, vs, _, rv, ha⟩
      · exact nomatch (off q).symm.trans z
    · refine off fun q => ?_
      subst q
      obtain rfl := Option.some.inj (ha.symm.trans e)
      cases d
    · rw [q, hk] at e
      cases e
end
/-- what is left of a row behind its head, from such a promise of its def -/
theorem walkG {l : PySem.W.OpenLaw} {n k : Nat} {q : Program} {loose : List Str} {XP : (Str → Option Value) → Heap → Prop}
    {YP : World → Heap → Prop} {d : DefRec} {K : Params → PySem.W.Frag} {sp : PySem.W.Frag → Sp} {x : Str}
    (hn : l.most = some n) (hn2 : n ≤ sizeLine) (hdf : d.params.defaults = []) (hq : importsNone q = true) (hr : Room k callerA)
    (hY : ∀ (w : World) (h : Heap), YP w h → (K w.params).In h)
    (F : ∀ (w : World) (mg : Str → Option Value) (fa : Addr) (h : Heap), (K w.params).In h → h.Ns mainGlobals mg →
      mg d.name = some (.ref fa) → ∃ fd : FuncData, (∀ (s : Shared) (u : Value), BindsTo s fd ⟨[u], []⟩ [(x, u)]) ∧
        ∀ base : Heap, (K w.params).In base → base.Ns mainGlobals mg → (base.get? sysModules).isSome = true →
          FnG l.prog w (K w.params) mg base CX0 k fa fd [x] (sp (K w.params)))
    (hsp : ∀ (K : PySem.W.Frag) (H : Hp) (a : Addr) (ns : List Int), ns.length ≤ n → Only H →
      SqL K H a (ns.map V.int) → sp K [.ref a] H (fun v _ => v = .bl true) fun _ _ _ => False) :
    PySem.W.WalkO q loose XP YP l.row.toRowW d [] (fun f vs => PySem.call f vs) := by
  refine Att.attach_call hn hdf ?_
  intro w s0 s1 mg mb fa o pm cd doc a vs ns G Y ho hd hcd hmg hobj hints hlen hg
  have KX := hY w _ Y
  obtain ⟨fd, hb, hF⟩ := F w mg fa _ KX G.T.g hmg
  obtain ⟨mm, hsys, _⟩ := (G.T.seer hq).mods
  exact law_callG KX G.T.g G.T.b G.T.builtins G.T.nolimit hg hsys hobj hints (Nat.le_trans hlen hn2) hr hF hb
    fun H hO hS => hsp (K w.params) H a ns hlen hO hS

/-! ### repr of plain data -/
def keyD : Key → PyData
  | .inl i => .int i
  | .inr x => .str x
mutual
/-- a value and what it shows: plain data over the abstract heap -/
inductive Dat (H : Hp) : V → PyData → Prop where
  | non : Dat H .non .none
  | bl (b : Bool) : Dat H (.bl b) (.bool b)
  | int (i : Int) : Dat H (.int i) (.int i)
  | str (x : Str) : Dat H (.str x) (.str x)
  | lst {a : Addr} {xs : List V} {ds : List PyData} (h : Rd H a (.lst xs)) (r : Dats H xs ds) : Dat H (.ref a) (.list ds)
  | tup {a : Addr} {xs : List V} {ds : List PyData} (h : Rd H a (.tup xs)) (r : Dats H xs ds) : Dat H (.ref a) (.tuple ds)
  | dic {a : Addr} {kvs : List (Key × V)} {ds : List PyData} (h : Rd H a (.dK kvs)) (r : Dats H (kvs.map (·.2)) ds) :
      Dat H (.ref a) (.dict ((kvs.map fun kv => keyD kv.1).zip ds))
inductive Dats (H : Hp) : List V → List PyData → Prop where
  | nil : Dats H [] []
  | cons {x : V} {d : PyData} {xs : List V} {ds : List PyData} (h : Dat H x d) (r : Dats H xs ds) : Dats H (x :: xs) (d :: ds)
end
theorem rd_some {H : Hp} {a : Addr} {u : HO} (h : Rd H a u) : H a ≠ none := by
  rcases h with h | ⟨o, h⟩ <;> rw [h] <;> simp
theorem Dats.len {H : Hp} : ∀ {xs : List V} {ds : List PyData}, Dats H xs ds → xs.length = ds.length
  | _, _, .nil => rfl
  | _, _, .cons _ r => congrArg (· + 1) r.len

section
variable {P : Program} {w : World} {H : Hp} {h : Heap}
theorem reads_keys : ∀ {ks : List Key} {us : List Value}, Paired (fun k u => keyIs k u = true) ks us → ReadsAll h us (ks.map keyD) []
  | _, _, .nil => .nil
  | _, _, .cons q r => by
    have t := reads_keys r
    rcases keyIs_shape q with ⟨i, t', rfl, rfl⟩ | ⟨x, t', rfl, rfl⟩
    · exact .cons (bs := []) (.int i t') t
    · exact .cons (bs := []) (.str x t') t
theorem pairs_parts {P : Program} {w : World} : ∀ {es : List DictEntry} {vs : List (Key × Value)} {kvs : List (Key × V)},
    Pairs (mixKind P w) es vs → KV kvs vs →
    Paired (fun k u => keyIs k u = true) (kvs.map (·.1)) (es.map (·.key)) ∧ Vals (kvs.map (·.2)) (es.map (·.val))
  | _, _, _, .nil, r => by
    cases r
    exact ⟨.nil, .nil⟩
  | _, _, _, .cons a b c, r => by
    cases r with
    | cons q t =>
      obtain ⟨i1, i2⟩ := pairs_parts c t
      rename_i e0 kv0 _ _ k0 _
      have a1 : keyIs k0.1 e0.key = true := by rw [q.1]; exact a
      have b1 : RelV k0.2 e0.val := by rw [b]; exact q.2
      exact ⟨.cons a1 i1, .cons b1 i2⟩
theorem zip_fst {α β : Type} : ∀ {l : List α} {m : List β}, l.length = m.length → (l.zip m).map (·.1) = l
  | [], [], _ => rfl
  | _ :: _, _ :: _, e => by simp [zip_fst (Nat.succ.inj e)]
theorem zip_snd {α β : Type} : ∀ {l : List α} {m : List β}, l.length = m.length → (l.zip m).map (·.2) = m
  | [], [], _ => rfl
  | _ :: _, _ :: _, e => by simp [zip_snd (Nat.succ.inj e)]
mutual
theorem Dat.reads (ok : HOk P w H h) : ∀ {v : V} {d : PyData} {u : Value}, Dat H v d → RelV v u → ∃ as, Reads h u d as ∧ ∀ b ∈ as, H b ≠ none
  | _, _, _, .non, r => ⟨[], by cases r; exact .none, by simp⟩
  | _, _, _, .bl b, r => ⟨[], by cases r; exact .bool b, by simp⟩
  | _, _, _, .int i, r => by
    obtain ⟨t, rfl⟩ := r
    exact ⟨[], .int i t, by simp⟩
  | _, _, _, .str x, r => by
    obtain ⟨t, rfl⟩ := r
    exact ⟨[], .str x t, by simp⟩
  | _, _, _, .lst (a := a) hr q, r => by
    cases r
    obtain ⟨_, its, n, rel, e⟩ := hr.ok ok
    obtain ⟨as, ra, ha⟩ := Dats.reads ok q rel
    refine ⟨a :: as, .list e rfl rfl ra, fun b hb => ?_⟩
    rcases List.mem_cons.mp hb with rfl | hb
    · exact rd_some hr
    · exact ha b hb
  | _, _, _, .tup (a := a) hr q, r => by
    cases r
    obtain ⟨_, its, rel, o, e, c, n, dd⟩ := hr.ok ok
    obtain ⟨as, ra, ha⟩ := Dats.reads ok q rel
    exact ⟨as, .tuple e c dd ra, ha⟩
  | _, _, _, .dic (a := a) (kvs := kvs) (ds := ds) hr q, r => by
    cases r
    obtain ⟨_, _, vs, kv, o, es, ep, e, ex, dd, ko, ps, nd⟩ := hr.ok ok
    obtain ⟨pk, pv'⟩ := pairs_parts ps kv
    obtain ⟨as, ra, ha⟩ := Dats.reads ok q pv'
    have len : (kvs.map fun kv => keyD kv.1).length = ds.length := by
      rw [List.length_map, ← q.len, List.length_map]
    refine ⟨a :: [] ++ as, .dict e ex.1 dd ?_ ?_, fun b hb => ?_⟩
    · have t := reads_keys (h := h) pk
      rw [zip_fst len]
      rw [List.map_map] at t
      exact t
    · rw [zip_snd len]
      exact ra
    · rcases List.mem_cons.mp hb with rfl | hb
      · exact rd_some hr
      · exact ha b hb
theorem Dats.reads (ok : HOk P w H h) : ∀ {xs : List V} {ds : List PyData} {us : List Value}, Dats H xs ds → Vals xs us → ∃ as, ReadsAll h us ds as ∧ ∀ b ∈ as, H b ≠ none
  | _, _, _, .nil, r => by
    cases r
    exact ⟨[], .nil, by simp⟩
  | _, _, _, .cons q t, r => by
    cases r with
    | cons r1 r2 =>
      obtain ⟨as, ra, ha⟩ := Dat.reads ok q r1
      obtain ⟨bs, rb, hb⟩ := Dats.reads ok t r2
      exact ⟨as ++ bs, .cons ra rb, fun b m => (List.mem_append.mp m).elim (ha b) (hb b)⟩
end
end

def rRepr (_ : PySem.W.Frag) : List V → Hp → VK → Prop := fun xs H Q => ∃ (v : V) (d : PyData), xs = [v] ∧ Dat H v d ∧ d.showable = true ∧
  d.shown.length ≤ sizeLine ∧ d.depth ≤ 40 ∧ Q (.str d.shown) H
/-- repr(v), v plain data -/
theorem call_reprD {X : Cx} (st : Still X.A) (hu : X.A.units + 64 < cLine) (hs' : (X.base.get? sysModules).isSome = true) : CallR X (.builtin "repr") (rRepr X.K) := by
  rintro pins s σ H xs us Q I r ⟨v, d, rfl, q, sh, sz, dp, k⟩
  have hs : d.hasDict = true → H sysModules = none := fun _ => by
    obtain ⟨o, ho⟩ := Option.isSome_iff_exists.mp hs'
    exact (I.bs _ _ ho).2
  cases r with
  | cons r1 rn =>
    cases rn
    have fin : ∀ (h' : Heap) (u : Tok) (tk : Nat), (∀ b o, s.heap.get? b = some o → h'.get? b = some o) →
        EP X pins σ Q (.str d.shown u) { s with heap := h', toks := tk } := fun h' u tk kp =>
      ⟨.str d.shown, H, I.kept kp, ⟨u, rfl⟩, k⟩
    obtain ⟨as, rd, ha⟩ := q.reads I.hok r1
    have big : ∀ {a : Addr} {e : PyData}, (e.depth ≤ 40) → X.A.units + (e.depth + 1) < cLine := fun h => by omega
    cases rd with
    | none => exact P.repr_of_none (fin s.heap _ _ fun _ _ e => e)
    | bool b => exact P.repr_of_bool (fin s.heap _ _ fun _ _ e => e)
    | int i t =>
      refine P.repr_of_int (by simpa [PyData.showable] using sh) (fin s.heap _ _ fun _ _ e => e)
    | str x t =>
      refine P.repr_of_str (fin s.heap _ _ fun _ _ e => e) (by simpa [PyData.shown] using sz)
    | list h1 h2 h3 h4 =>
      exact repr_of_reads' (.list h1 h2 h3 h4) sh (fun z m => ha _ m (hs z)) st (by omega) (fun _ _ e => e)
        (fun h' u tk kp => fin h' u tk kp) sz
    | tuple h1 h2 h3 h4 =>
      exact repr_of_reads' (.tuple h1 h2 h3 h4) sh (fun z m => ha _ m (hs z)) st (by omega) (fun _ _ e => e)
        (fun h' u tk kp => fin h' u tk kp) sz
    | dict h1 h2 h3 h4 h5 =>
      exact repr_of_reads' (.dict h1 h2 h3 h4 h5) sh (fun z m => ha _ m (hs z)) st (by omega) (fun _ _ e => e)
        (fun h' u tk kp => fin h' u tk kp) sz
end PW
/-! PW1: exceptions of the program as values: made by position and by name, their attributes, isinstance -/
namespace PW
open PySem PySem.Spec PyProof.Rows L2

/-- what the written part says of an exception class of the program at C -/
structure XC (K : PySem.W.Frag) (C : Addr) : Prop where
  base : ∃ (B newId initId : String) (bmB : List Value), ExcBaseFacts B newId initId bmB ∧
    PySem.StoreFacts B bmB "object.__setattr__" "object" ∧ PySem.W.excInitIn K C bmB newId = true ∧ PySem.W.excOver K C bmB = true
  sa : PySem.W.findIn K (.ref C) "__setattr__" = some (some (.builtin "object.__setattr__"))
  ga : PySem.W.findIn K (.ref C) "__getattribute__" = some (some (.builtin "BaseException.__getattribute__"))
  gg : PySem.W.findIn K (.ref C) "__getattr__" = some none
  ex : PySem.W.subIn K (.ref C) (.type "BaseException") = some true
  kp : PySem.W.keepIn K (.ref C) = true
  hd : PySem.W.hasDictIn K C = true
  cl : (PySem.W.clsIn K C).isSome = true
  ca : PySem.W.findIn K (.ref C) "__class__" = some (some (.builtin "object.__class__"))
  mo : PySem.W.mroIn K C (.type "object") = some true
/-- of every such class alike -/
structure XAll (K : PySem.W.Frag) : Prop where
  gs : PySem.W.specialIn K (.builtin "object.__class__") "__get__" = some (some (.builtin "getset_descriptor.__get__"))
  tk : PySem.W.takesIn K (.builtin "object.__class__") = some true

section
variable {prog : Program} {w : World} {A : Around} {E : Value → Shared → Prop} {K : PySem.W.Frag} {C x : Addr} {f : Str}
  {v : Value} {Q : Unit → Shared → Prop} {hp : Heap} {g : Array GenState} {d : Drawn} {t : Nat} {os : OsState} {fv : Array Value}
theorem set_more (T : XC K C) {dx : Addr} {m0 : Str → Option Value} {nl : List Str} (X : K.In hp)
    (hx : hp.get? x = some { cls := .ref C, dict := some dx, data := .fields fv }) (hn : hp.Ns1 dx m0) (hw : Within m0 nl)
    (hz : nl.length ≤ 1000) (tk : PySem.W.takerIn K C f = some none)
    (hq : ∀ h' tk', (∀ b o, b ≠ dx → hp.get? b = some o → h'.get? b = some o) →
      h'.Ns1 dx (fun y => if y = f then some v else m0 y) → Q () ⟨h', g, d, tk', os⟩) :
    wpAny (model prog w) A (setAttr (.ref x) f v) Q E ⟨hp, g, d, t, os⟩ := by
  obtain ⟨B, newId, initId, bmB, bf, sf, mk, ov⟩ := T.base
  obtain ⟨oD, esD, epD, hoD, hdD, _⟩ := hn.count hw
  obtain ⟨cd, hc, hd'⟩ := PySem.W.any_some T.hd
  have I : PySem.W.InstAt hp x { cls := .ref C, dict := some dx, data := .fields fv } C (some oD) := ⟨hx, rfl, rfl, hoD⟩
  refine PySem.W.set_plain X I T.sa (PySem.W.osa_openX (s := ⟨hp, g, d, t + 1, os⟩) sf X I ov tk fun b => ?_)
  refine wpAny_bind (wpAny_pure (wpAny_bind (wpAny_bind (wpAny_loadPart hx (wpAny_bind ((PySem.W.looks_clsIn X hc).here ?_))))))
  rw [hd']
  refine wpAny_pure (a := some dx) ?_
  exact PySem.OEX.store_in_old hn hw hz fun h' tk' n' same =>
    hq h' tk' (fun b o hb e => (same.2 b hb).trans e) n'
theorem set_first (T : XC K C) {t0 : Addr} (X : K.In hp) (hx : hp.get? x = some (PySem.HandSPX.excO C t0))
    (tk : PySem.W.takerIn K C f = some none)
    (hq : ∀ h' tk' dx, (∀ b o, b ≠ x → hp.get? b = some o → h'.get? b = some o) → hp.objs.size ≤ dx → dx ≠ x →
      h'.get? x = some { cls := .ref C, dict := some dx, data := .fields #[.ref t0, .none, .none, .none, .bool false, .none] } →
      h'.Ns1 dx (fun y => if y = f then some v else none) → Q () ⟨h', g, d, tk', os⟩) :
    wpAny (model prog w) A (setAttr (.ref x) f v) Q E ⟨hp, g, d, t, os⟩ := by
  obtain ⟨B, newId, initId, bmB, bf, sf, mk, ov⟩ := T.base
  obtain ⟨cd, hc, hd'⟩ := PySem.W.any_some T.hd
  have I : PySem.W.InstAt hp x (PySem.HandSPX.excO C t0) C none := ⟨hx, rfl, rfl, trivial⟩
  have far : hp.objs.size ≠ x := Nat.ne_of_gt (Heap.lt_size hx)
  refine PySem.W.set_plain X I T.sa (PySem.W.osa_openX (s := ⟨hp, g, d, t + 1, os⟩) sf X I ov tk fun b => ?_)
  refine wpAny_bind (wpAny_pure (wpAny_bind (PySem.W.instanceDict_exc (s := ⟨hp, g, d, t + 1, os⟩) (c2 := .none) hx
    (PySem.W.looks_clsIn X hc) hd' ?_)))
  refine PySem.HandSPX.store_in_new ?_ ?_
  · exact ⟨_, #[], _, (Heap.get?_update_ne _ _ _ _ far).trans (Heap.get?_push_at rfl rfl), rfl,
      fun e he => absurd he (by simp), fun _ => rfl⟩
  · intro h' tk' n' same
    have hx1 : (hp.push (PySem.W.dictOf [] 0)).get? x = some (PySem.HandSPX.excO C t0) := Heap.get?_push_of_some _ hx
    refine hq h' tk' hp.objs.size (fun b o hb e => ?_) (Nat.le_refl _) far ?_ n'
    · have q : b ≠ hp.objs.size := Nat.ne_of_lt (Heap.lt_size e)
      exact (same.2 b q).trans ((Heap.get?_update_ne _ _ _ _ hb).trans (Heap.get?_push_of_some _ e))
    · exact (same.2 x far.symm).trans (Heap.get?_update_self _ hx1 rfl)
end

/-! ### self.f = e within __init__ -/
section
variable {X : Cx} {pins : List (Addr × Obj)} {σ : L2.St} {H : Hp} {s : Shared} {a C dx : Addr} {f : Str} {y : V} {u : Value}
  {fs : List (Str × V)} {Q : Unit → Shared → Prop} {E : Value → Shared → Prop} {A : Around}
theorem put_first (T : XC X.K C) (I : Inv X pins σ H s) (e : H a = some (exo a C none))
    (tk : PySem.W.takerIn X.K C f = some none) (ry : RelV y u)
    (h : ∀ dx s', H dx = none → dx ≠ a →
      Inv X pins σ (upd (upd H dx (exd dx [(f, y)])) a (exo a C (some dx))) s' → Q () s') :
    wpAny (model X.prog X.w) A (setAttr (.ref a) f u) Q E s := by
  obtain ⟨t1, ho⟩ := exo_at I.hok e
  obtain ⟨hp, g, d, t, os⟩ := s
  refine set_first T I.kIn ho tk fun h' tk' dx k dn dne hx hn => ?_
  have new : H dx = none := I.hok.fresh dn
  have old : ∀ {b : Addr} {o : Obj}, hp.get? b = some o → b ≠ dx := fun q => Nat.ne_of_lt (Nat.lt_of_lt_of_le (Heap.lt_size q) dn)
  have off : ∀ {b : Addr}, H b = none → b ≠ a := fun n z => by rw [z, e] at n; cases n
  have un : Un X.fs [] H (upd (upd H dx (exd dx [(f, y)])) a (exo a C (some dx))) hp h' :=
    { keep := fun b o q n _ _ => k b o (off n) q
      slot := fun b o q n _ _ => ⟨o.slots, k b o (off n) q⟩
      free := fun b o q n _ => (upd_ne (off n)).trans ((upd_ne (old q)).trans n)
      there := fun b o q _ => by
        by_cases z : b = a
        · exact ⟨_, z ▸ hx⟩
        · exact ⟨o, k b o z q⟩
      tups := fun b xs q => (upd_ne (at_ne e q exo_tup)).trans ((upd_ne (ne_of_none q new)).trans q)
      frzs := fun b o v q => (upd_ne (at_ne e q exo_frz)).trans ((upd_ne (ne_of_none q new)).trans q)
      tbls := fun b ps q => ⟨#[], ((upd_ne (at_ne e q exo_tbl)).trans ((upd_ne (ne_of_none q new)).trans q)).trans (by simp)⟩ }
  refine h dx _ new dne (I.un (t' := tk') un fun b o q => ?_)
  by_cases z : b = a
  · subst z
    obtain rfl := Option.some.inj (upd_same.symm.trans q)
    exact exo_ok hx
  · have q1 := (upd_ne z).symm.trans q
    by_cases zd : b = dx
    · subst zd
      obtain rfl := Option.some.inj (upd_same.symm.trans q1)
      exact exd_ok hn (relO_put (fs := []) ry fun _ => trivial)
    · have q2 := (upd_ne zd).symm.trans q1
      refine (I.hok b o q2).stay (fun c v hc w' => k c v ?_ w') (fun c hc => ?_) fun c xs hc => ?_
      · rcases hc with rfl | hc
        · exact z
        · exact at_ne e hc exo_own
      · exact (upd_ne (at_ne e hc exo_own)).trans ((upd_ne (ne_of_none hc new)).trans hc)
      · exact (upd_ne (at_ne e hc exo_tup)).trans ((upd_ne (ne_of_none hc new)).trans hc)
theorem put_more (T : XC X.K C) (I : Inv X pins σ H s) (e : H a = some (exo a C (some dx))) (ed : H dx = some (exd dx fs))
    (hl : fs.length ≤ 900) (tk : PySem.W.takerIn X.K C f = some none) (ry : RelV y u)
    (h : ∀ s', Inv X pins σ (upd H dx (exd dx ((f, y) :: fs))) s' → Q () s') :
    wpAny (model X.prog X.w) A (setAttr (.ref a) f u) Q E s := by
  obtain ⟨t1, ho⟩ := exo_at I.hok e
  obtain ⟨mA, hns, rel⟩ := exd_at I.hok ed
  obtain ⟨hp, g, d, t, os⟩ := s
  refine set_more T I.kIn ho hns (within_of rel) (by rw [List.length_map]; omega) tk fun h' tk' k hn => ?_
  have there : ∃ o, h'.get? dx = some o := hn.elim fun o z => z.elim fun _ z => z.elim fun _ z => ⟨o, z.1⟩
  refine h _ (I.write (t' := tk') (x := dx) (e := dx) (o := exd dx ((f, y) :: fs)) ?_ (.inl rfl) k there
    (exd_ok hn (relO_put ry rel)))
  rw [ed]
  exact True.intro
end
/-- the reading of self.f = e on an exception -/
def tPut (K : PySem.W.Frag) (f : Str) (to te : TE) : TS := fun D σ H => te σ H fun y H1 => to σ H1 fun x H2 =>
  ∃ a C : Addr, x = .ref a ∧ XC K C ∧ PySem.W.takerIn K C f = some none ∧
    ((H2 a = some (exo a C none) ∧ ∀ dx, H2 dx = none → dx ≠ a → D.nx σ (upd (upd H2 dx (exd dx [(f, y)])) a (exo a C (some dx)))) ∨
    ∃ (dx : Addr) (fs : List (Str × V)), H2 a = some (exo a C (some dx)) ∧ H2 dx = some (exd dx fs) ∧ fs.length ≤ 900 ∧
      D.nx σ (upd H2 dx (exd dx ((f, y) :: fs))))
section
variable {X : Cx} {o e : Expr} {es : List Expr} {to te : TE} {ta tk : TA} {f : Str} {p p' p1 p2 pos : Pos}
theorem ps_put (ho : PE X o to) (he : PE X e te)
    (hs : swapsWith e (some (.Attribute o f p')) pos.line X.env = pure false := by rfl) :
    PS X (.Assign [.Attribute o f p'] e pos) (tPut X.K f to te) := by
  constructor
  intro pins s σ H D I h
  refine plainObj_wpAny_Assign_Attribute (thn (he.run pins s σ H _ I h) ?_) hs
  rintro v s1 ⟨y, H1, I1, r1, q1⟩
  refine thn (ho.run pins s1 σ H1 _ I1 q1) ?_
  rintro u s2 ⟨x, H2, I2, r2, a, C, rfl, T, ht, q⟩
  obtain rfl : u = Value.ref a := r2
  rcases q with ⟨ea, q⟩ | ⟨dx, fs, ea, ed, hl, q⟩
  · exact put_first T I2 ea ht r1 fun dx s' n ne J => ⟨σ, _, J, q dx n ne⟩
  · exact put_more T I2 ea ed hl ht r1 fun s' J => ⟨σ, _, J, q⟩
end
end PW
/-! PW1b: an exception class of the program called with keywords too -/
namespace PW
open PySem
section
variable {prog : Program} {w : World} {A : Around} {E : Value → Shared → Prop} {R : Result → Shared → Prop} {h : Heap}
  {g : Array GenState} {d : Drawn} {t : Nat} {os : OsState} {M : Model}
variable {nm q : Str} {C N : Addr} {bs bm bmB : List Value} {hdct : Bool} {sn : List Str} {sub : List Value} {ab : Bool}
  {col : Option Bool} {dd : Option Addr} {k0 k1 k2 k3 k5 : Option Value} {B newId initId : String}
  {rest : List Value} {kw : List (Str × Value)}
theorem new_checked (F : ExcBaseFacts B newId initId bmB) (hT : ∀ X : String, bm.contains (.type X) = bmB.contains (.type X))
    {Q : Unit → Shared → Prop} (hC : h.get? C = some (excClassObj nm q C N bs bm hdct sn sub ab col dd k0 k1 k2 k3 k5 newId))
    (hq : Q () ⟨h, g, d, t, os⟩) : wpAny M A (checkBuiltinCall newId ⟨.ref C :: rest, kw⟩) Q E ⟨h, g, d, t, os⟩ := by
  have has : (Value.ref C :: bm).contains (.type B) = true := by rw [List.contains_cons, hT, F.hasB, Bool.or_true]
  have hstar := F.noStar
  simp only [checkBuiltinCall, F.newKind, F.newSplit, F.newRow]
  repeat (first
    | refine wpAny_loadPart_at hC ?_
    | (refine wpAny_isSubtype_exc hC ?_; rw [has])
    | refine wpAny_staticBase_exc hC ?_
    | refine wpAny_madeBy_exc hC ?_
    | simp only [bne_self_eq_false, Bool.false_eq_true, if_false]
    | wp_step)
  exact hq
theorem new_goes (F : ExcBaseFacts B newId initId bmB) (hT : ∀ X : String, bm.contains (.type X) = bmB.contains (.type X))
    (hC : h.get? C = some (excClassObj nm q C N bs bm hdct sn sub ab col dd k0 k1 k2 k3 k5 newId))
    (hq : R (.ok (.ret (.ref (h.objs.size + 1)))) ⟨(h.push (PySem.W.kdv_tup rest)).push (PySem.HandSPX.excO C h.objs.size), g, d, t, os⟩)
    (hrest : rest.length ≤ sizeLine) :
    codeAny (model prog w) A (.builtin newId ⟨.ref C :: rest, kw⟩) R ⟨h, g, d, t, os⟩ := by
  have hends := F.ends
  have isB : (Value.ref C :: bm).contains (.type B) = true := by rw [List.contains_cons, hT, F.hasB, Bool.or_true]
  have noA : (Value.ref C :: bm).contains (.type "AttributeError") = false := by
    rw [List.contains_cons, hT, F.noAttr]
    rfl
  have noN : (Value.ref C :: bm).contains (.type "NameError") = false := by
    rw [List.contains_cons, hT, F.noName]
    rfl
  refine codeAny_builtinAt F.entry ?_
  unfold Builtin.«BaseException.__new__»
  refine wpAt_bind ?_
  show wpAt _ _ _ (stack >>= _) _ _ _
  refine wpAt_bind (wpAt_stack fun p below => wpAt_of_wpAny ?_)
  wp_walk
  refine wpAt_of_wpAny ?_
  rw [F.owner]
  repeat (first
    | with_reducible refine wpAny_madeHere_exc F.canon hC ?_
    | with_reducible refine wpAny_loadPart_at hC ?_
    | (with_reducible refine wpAny_isSubtype_exc hC ?_; first | rw [isB] | rw [noA] | rw [noN])
    | wp_step)
  show R _ _
  rw [Heap.size_push]
  exact hq
/-- type.__call__ on such a class, its __init__ a def -/
theorem type_goes (F : ExcBaseFacts B newId initId bmB) (hT : ∀ X : String, bm.contains (.type X) = bmB.contains (.type X))
    {fI : Addr} {Q : Fin → Shared → Prop}
    (hC : h.get? C = some (excClassObj nm q C N bs bm hdct sn sub ab col dd k0 k1 k2 k3 k5 newId))
    (hi : W.Looks (model prog w) h (typeLookup (.ref C) "__init__") (some (.ref fI)))
    (hb : ∀ self, W.Looks (model prog w) h (bindSpecial (.ref fI) self) (.ref fI, [self])) (hrest : rest.length ≤ sizeLine)
    (hq : codeAny (model prog w) A (.call (.ref fI) ⟨.ref (h.objs.size + 1) :: rest, kw⟩)
      (fun r s' => match r with
        | .ok (.ret v) => v = .none ∧ Q (.done (.ret (.ref (h.objs.size + 1)))) s'
        | .ok _ => False
        | .error e => E e s') ⟨(h.push (PySem.W.kdv_tup rest)).push (PySem.HandSPX.excO C h.objs.size), g, d, t, os⟩) :
    wpAny (model prog w) A (Builtin.«type.__call__» ⟨.ref C :: rest, kw⟩) Q E ⟨h, g, d, t, os⟩ := by
  repeat (first | with_reducible refine wpAny_loadPart_at hC ?_ | with_reducible refine wpAny_madeBy_exc hC ?_ | wp_step)
  refine codeAny_call_builtin_code (Code.quiet_builtin _ F.quiet) (new_checked F hT hC (new_goes F hT hC ?_ hrest))
  show wpAny _ _ _ _ _ _
  have kp : ∀ b o, h.get? b = some o →
      ((h.push (PySem.W.kdv_tup rest)).push (PySem.HandSPX.excO C h.objs.size)).get? b = some o :=
    fun b o e => Heap.get?_push_of_some _ (Heap.get?_push_of_some _ e)
  have hC1 := kp _ _ hC
  have at1 : ((h.push (PySem.W.kdv_tup rest)).push (PySem.HandSPX.excO C h.objs.size)).get? (h.objs.size + 1)
      = some (PySem.HandSPX.excO C h.objs.size) := by heap_get
  have self : (Value.ref C :: bm).contains (.ref C) = true := by simp
  unfold isInstance
  repeat (first
    | with_reducible refine wpAny_loadPart_at at1 ?_
    | (with_reducible refine wpAny_isSubtype_exc hC1 ?_; rw [self])
    | wp_step)
  show wpAny _ _ (typeLookup (.ref C) _) _ _ _
  refine (hi.keeps kp).at ?_
  refine wpAny_holding (wpAny_bind (((hb (.ref (h.objs.size + 1))).keeps kp).at ?_))
  refine wpAny_bind (wpAny_call (codeAny_mono hq fun r s' z => ?_))
  match r, z with
  | .error _, z => exact z
  | .ok .next, z => exact z.elim
  | .ok .brk, z => exact z.elim
  | .ok .cont, z => exact z.elim
  | .ok (.ret v), z =>
    obtain ⟨rfl, z⟩ := z
    first
      | exact wpAny_pure (wpAny_pure z)
      | (wp_walk; exact z)
/-- C(.., k = v, ..) -/
theorem call_goes (F : ExcBaseFacts B newId initId bmB) (hT : ∀ X : String, bm.contains (.type X) = bmB.contains (.type X))
    {fI : Addr} (hC : h.get? C = some (excClassObj nm q C N bs bm hdct sn sub ab col dd k0 k1 k2 k3 k5 newId))
    (hi : W.Looks (model prog w) h (typeLookup (.ref C) "__init__") (some (.ref fI)))
    (hb : ∀ self, W.Looks (model prog w) h (bindSpecial (.ref fI) self) (.ref fI, [self])) (hrest : rest.length ≤ sizeLine)
    (hq : codeAny (model prog w) (A.under (.builtin "type.__call__" ⟨.ref C :: rest, kw⟩))
      (.call (.ref fI) ⟨.ref (h.objs.size + 1) :: rest, kw⟩) (PySem.W.InitBack (h.objs.size + 1) R)
      ⟨(h.push (PySem.W.kdv_tup rest)).push (PySem.HandSPX.excO C h.objs.size), g, d, t, os⟩) :
    codeAny (model prog w) A (.call (.ref C) ⟨rest, kw⟩) R ⟨h, g, d, t, os⟩ := by
  have f1 := tc_lookup
  have f2 := tc_bind (.ref C)
  have ty : (⟨h, g, d, t, os⟩ : Shared).TypeIs (.ref C) "type" := ⟨_, hC, rfl⟩
  refine codeAny_of_tree ?_
  show wpAny _ _ (callAny (.ref C) _) _ _ _
  repeat (any_goals (first | assumption | with_reducible refine wpAny_loadPart_at hC ?_ | wp_step))
  refine ⟨rfl, ?_⟩
  have L0 : W.Looks (model prog w) h (typeOf (.ref C)) (.type "type") := (W.Looks.ld hC).andThen .now
  have L1 : W.Looks (model prog w) h (isInstance (.ref C) (.type "type")) true := L0.andThen (W.Looks.of_pure tc_sub)
  refine codeAny_call_builtin_at (Code.quiet_builtin _ (by decide +kernel)) entry_typeCall
    (W.check_slot tc_kind tc_split L1 (W.tc_args _ _ _) (type_goes F hT hC hi hb hrest ?_))
  refine codeAny_mono hq fun r s' z => ?_
  match r, z with
  | .error _, z => exact z
  | .ok .next, z => exact z
  | .ok .brk, z => exact z
  | .ok .cont, z => exact z
  | .ok (.ret v), z => exact z
end
end PW
/-! PW1c: exceptions of the program made by an expression -/
namespace PW
open PySem PySem.Spec PyProof.Rows L2
/-- C(..) of an exception class whose __init__ is a def: the exception and its __init__'s promise. g, gV: how the arguments come to the parameters -/
theorem run_X {X : Cx} {C fI : Addr} {k : Nat} {fd : FuncData} {ps : List Str} {sp : Sp} {us : List Value} {kw : List (Str × Value)}
    {vs : List V} {ws : List Value} {pins : List (Addr × Obj)} {σ : L2.St} {H : Hp} {s : Shared} {Q : VK}
    (T : XC X.K C) (iC : PySem.W.findIn X.K (.ref C) "__init__" = some (some (.ref fI)))
    (tI : PySem.W.typeIn X.K (.ref fI) = some (.type "function")) (F : FnOk X.prog X.w X.K X.mg X.base CX0 k fI fd ps sp)
    (hr : Room (k + 1) X.A) (I : Inv X pins σ H s) (hus : us.length ≤ 1000) (rel : Vals vs ws)
    (bnd : ∀ (a : Addr) (s' : Shared), BindsTo s' fd ⟨.ref a :: us, kw⟩ (ps.zip (.ref a :: ws)))
    (h : ∀ a, H a = none → sp (.ref a :: vs) (upd H a (exo a C none)) (fun v H2 => v = .non ∧ Q (.ref a) H2) (fun _ _ _ => False)) :
    wpAny (model X.prog X.w) X.A (call (.ref C) us kw) (EP X pins σ Q) X.xe s := by
  obtain ⟨B, newId, initId, bmB, bf, sf, mk, ov⟩ := T.base
  obtain ⟨nm, N, qn, bs, bm, hdct, sn, sub, ab, col, dd, k0, k1, k2, k3, k5, hC, hT⟩ := PySem.W.excInit_of I.kIn mk
  obtain ⟨hp, g, dr, tk, os⟩ := s
  have hn : H (hp.objs.size + 1) = none := I.hok.fresh (Nat.le_succ _)
  have kk : ∀ b o, hp.get? b = some o →
      ((hp.push (PySem.W.kdv_tup us)).push (PySem.HandSPX.excO C hp.objs.size)).get? b = some o :=
    fun b o e => Heap.get?_push_of_some _ (Heap.get?_push_of_some _ e)
  have hget : ((hp.push (PySem.W.kdv_tup us)).push (PySem.HandSPX.excO C hp.objs.size)).get? (hp.objs.size + 1)
      = some (PySem.HandSPX.excO C hp.objs.size) := by heap_get
  have I2 : Inv X pins σ (upd H (hp.objs.size + 1) (exo (hp.objs.size + 1) C none))
      ⟨(hp.push (PySem.W.kdv_tup us)).push (PySem.HandSPX.excO C hp.objs.size), g, dr, tk, os⟩ :=
    I.laid (t' := tk) (a := hp.objs.size + 1) kk (Nat.le_succ _) (exo_ok hget)
  have q0 := h _ hn
  refine wpAny_call (call_goes bf hT hC (PySem.W.looks_findIn I.kIn iC) (fun self => PySem.W.bind_fn I.kIn self tI)
    (Nat.le_trans hus (by decide)) (codeAny_mono (F.run _ X.stack _ _ ⟨.ref (hp.objs.size + 1) :: us, kw⟩
      (.ref (hp.objs.size + 1) :: ws) (V.ref (hp.objs.size + 1) :: vs) _ _ (hr.make C us kw) (I2.env0.make C us kw) (bnd _ _) (.cons rfl rel) q0) ?_))
  intro r s' z
  match r, z with
  | .error _, z => exact z.elim
  | .ok .next, z => exact z.elim
  | .ok .brk, z => exact z.elim
  | .ok .cont, z => exact z.elim
  | .ok (.ret u), z =>
    obtain ⟨v, H', J, rv, rfl, q⟩ := I2.after z
    exact ⟨rv, .ref (hp.objs.size + 1), H', J, rfl, q⟩

/-- C(e, ..) | C(k = e, ..): the reading -/
def tMkX (C : Addr) (sp : Sp) (ta : TA) : TE := fun σ H Q => ta σ H fun vs H1 => vs.length ≤ 1000 ∧ ∀ a, H1 a = none →
  sp (.ref a :: vs) (upd H1 a (exo a C none)) (fun v H2 => v = .non ∧ Q (.ref a) H2) fun _ _ _ => False
section
variable {X : Cx} {C fI : Addr} {k : Nat} {fd : FuncData} {ps : List Str} {sp : Sp} {x : Str} {p pos : Pos} {e : Expr}
  {es : List Expr} {ta : TA} {kws : List Keyword} {ks : List Str}
theorem pe_mkX (T : XC X.K C) (iC : PySem.W.findIn X.K (.ref C) "__init__" = some (some (.ref fI)))
    (tI : PySem.W.typeIn X.K (.ref fI) = some (.type "function")) (F : FnOk X.prog X.w X.K X.mg X.base CX0 k fI fd ps sp)
    (hr : Room (k + 1) X.A) (hg : Gl X x) (hm : X.mg x = some (.ref C)) (ha : PA X (e :: es) ta)
    (hbs : ∀ (s : Shared) (us : List Value), us.length = ps.length → BindsTo s fd ⟨us, []⟩ (ps.zip us))
    (hdb : (x == ("__debug__" : Str)) = false := by decide)
    (he : starEach (e :: es) X.env = (false, eval e X.env) :: starEach es X.env := by rfl)
    (hpl : (backTo pos (starEach es X.env)).any (·.1) = false := by rfl) :
    PE X (.Call (.Name x p) (e :: es) [] pos) (tMkX C sp ta) := by
  constructor
  intro pins s σ H Q I h
  refine wpAny_Call_Name_kw (ld_glob I hg hm ?_ hdb)
  refine PySem.W.callWith_K (h₀ := X.base) I.ok.mod.kin T.kp (thn (ha.run pos pins s σ H _ I h) ?_) he hpl
  rintro us s1 ⟨vs, H1, I1, r1, hz, q1⟩
  refine ⟨I1.kIn, ?_⟩
  have hl : us.length ≤ 1000 := by rw [← Paired.length r1]; exact hz
  refine run_X T iC tI F hr I1 hl r1 (fun a s' => ?_) q1
  obtain ⟨a0, n0⟩ : ∃ a0, H1 a0 = none := ⟨_, I1.hok.fresh (Nat.le_refl _)⟩
  have ar := F.len _ _ _ _ (q1 a0 n0)
  have e1 := Paired.length r1
  exact hbs s' _ (by simpa [← e1] using ar)
/-- keywords alone; perm: where each keyword's value goes -/
theorem pe_mkXk {perm : {α : Type} → List α → List α} (T : XC X.K C)
    (iC : PySem.W.findIn X.K (.ref C) "__init__" = some (some (.ref fI)))
    (tI : PySem.W.typeIn X.K (.ref fI) = some (.type "function")) (F : FnOk X.prog X.w X.K X.mg X.base CX0 k fI fd ps sp)
    (hr : Room (k + 1) X.A) (hg : Gl X x) (hm : X.mg x = some (.ref C)) (ha : PK X kws ta)
    (hrel : ∀ {vs : List V} {us : List Value}, Vals vs us → Vals (perm vs) (perm us))
    (hbs : ∀ (s : Shared) (a : Addr) (us : List Value), us.length = ks.length →
      BindsTo s fd ⟨[.ref a], ks.zip us⟩ (ps.zip (.ref a :: perm us)))
    (hpm : ∀ {α : Type} (l : List α), (perm l).length = l.length) (hps : ps.length = ks.length + 1)
    (hall : (backToKw pos (keywordEach kws X.env)).all (·.1.isSome) = true := by rfl)
    (hks : (backToKw pos (keywordEach kws X.env)).filterMap (·.1) = ks := by rfl)
    (hdb : (x == ("__debug__" : Str)) = false := by decide)
    (hpl : (backToKw pos (keywordEach kws X.env)).any (·.1.isNone) = false := by rfl) :
    PE X (.Call (.Name x p) [] kws pos) (tMkX C sp (fun σ H Q => ta σ H fun vs H1 => Q (perm vs) H1)) := by
  constructor
  intro pins s σ H Q I h
  refine wpAny_Call_Name_kw (ld_glob I hg hm ?_ hdb)
  refine PySem.W.callWith_KW0 (h₀ := X.base) I.ok.mod.kin T.kp hall (thn (ha.run pos pins s σ H _ I h) ?_) hpl
  rintro us s1 ⟨vs, H1, I1, r1, hz, q1⟩
  refine ⟨I1.kIn, ?_⟩
  rw [hks]
  refine run_X T iC tI F hr I1 (Nat.zero_le _) (hrel r1) (fun a s' => hbs s' a us ?_) q1
  obtain ⟨a0, n0⟩ : ∃ a0, H1 a0 = none := ⟨_, I1.hok.fresh (Nat.le_refl _)⟩
  have ar := F.len _ _ _ _ (q1 a0 n0)
  have e1 := Paired.length r1
  have e2 := hpm vs
  rw [hps, List.length_cons] at ar
  omega

/-- C() where the class has no __init__ of its own -/
theorem pe_mkX0 {B newId initId : String} {bmB : List Value} (T : XC X.K C) (bf : ExcBaseFacts B newId initId bmB)
    (mk : PySem.W.excInitIn X.K C bmB newId = true)
    (iC : PySem.W.findIn X.K (.ref C) "__init__" = some (some (.builtin initId)))
    (hg : Gl X x) (hm : X.mg x = some (.ref C)) (hdb : (x == ("__debug__" : Str)) = false := by decide) :
    PE X (.Call (.Name x p) [] [] pos) (fun _ H Q => ∀ a, H a = none → Q (.ref a) (upd H a (exo a C none))) := by
  constructor
  intro pins s σ H Q I h
  refine wpAny_Call_Name_kw (ld_glob I hg hm ?_ hdb)
  refine PySem.W.callWith_K0 I.kIn T.kp ?_
  obtain ⟨nm, N, qn, bs, bm, hdct, sn, sub, ab, col, dd, k0, k1, k2, k3, k5, hC, hT⟩ := PySem.W.excInit_of I.kIn mk
  have il := PySem.W.looks_findIn (M := model X.prog X.w) I.kIn iC
  obtain ⟨hp, g, dr, tk, os⟩ := s
  refine PySem.W.call_B bf hT hC il (Nat.zero_le _) fun h' k he ht => ?_
  refine ⟨.ref (hp.objs.size + 1), _, I.laid (t' := tk) (a := hp.objs.size + 1) k (Nat.le_succ _) (exo_ok he), rfl,
    h _ (I.hok.fresh (Nat.le_succ _))⟩
end

/-! ### what is asked of an exception that is tracked -/
/-- at a an exception of the class at C, its attributes fs -/
def ExAt (H : Hp) (a C : Addr) (fs : List (Str × V)) : Prop :=
  (H a = some (exo a C none) ∧ fs = []) ∨ ∃ d, H a = some (exo a C (some d)) ∧ H d = some (exd d fs)
theorem ExAt.ext {H H' : Hp} {a C : Addr} {fs : List (Str × V)} (e : ∀ b o, H b = some o → H' b = some o) (x : ExAt H a C fs) :
    ExAt H' a C fs := by
  rcases x with ⟨x, q⟩ | ⟨d, x, y⟩
  · exact .inl ⟨e _ _ x, q⟩
  · exact .inr ⟨d, e _ _ x, e _ _ y⟩
section
variable {X : Cx} {pins : List (Addr × Obj)} {σ : L2.St} {H : Hp} {s : Shared} {a C : Addr} {fs : List (Str × V)}
theorem ExAt.inst (I : Inv X pins σ H s) (x : ExAt H a C fs) : ∃ (t1 : Addr) (d : Option Addr) (od : Option Obj),
    PySem.W.InstAt s.heap a { cls := .ref C, dict := d, data := .fields #[.ref t1, .none, .none, .none, .bool false, .none] } C od ∧
    ∀ f v, fs.lookup f = some v → ∃ u o, od = some o ∧ PySem.W.lookIn f o = some (some u) ∧ RelV v u := by
  rcases x with ⟨x, rfl⟩ | ⟨d, x, y⟩
  · obtain ⟨t1, ho⟩ := exo_at I.hok x
    exact ⟨t1, none, none, ⟨ho, rfl, rfl, trivial⟩, fun f v q => nomatch q⟩
  · obtain ⟨t1, ho⟩ := exo_at I.hok x
    obtain ⟨mA, hn, rel⟩ := exd_at I.hok y
    obtain ⟨od, hod, hl⟩ := lookIn_ns hn
    refine ⟨t1, some d, some od, ⟨ho, rfl, rfl, hod⟩, fun f v q => ?_⟩
    have r := rel f
    rw [q] at r
    obtain ⟨u, hu, ru⟩ := RelO.some_of r
    exact ⟨u, od, rfl, by rw [hl, hu], ru⟩
end
/-- isinstance(e, D) -/
def rIsX (K : PySem.W.Frag) : List V → Hp → VK → Prop := fun xs H Q => ∃ (a C : Addr) (fs : List (Str × V)) (c : V) (u : Value) (b : Bool),
  xs = [.ref a, c] ∧ ClsV c u ∧ XC K C ∧ ExAt H a C fs ∧ PySem.W.kitOne K (.ref C) u = some b ∧ Q (.bl b) H
theorem call_isX {X : Cx} (A : XAll X.K) : CallR X (.builtin "isinstance") (rIsX X.K) := by
  rintro pins s σ H xs us Q I r ⟨a, C, fs, c, u, b, rfl, k, T, x, e, q⟩
  obtain ⟨u1, u2, rfl, r1, r2⟩ := vals2 r
  obtain rfl := k.eq r2
  obtain rfl : u1 = Value.ref a := r1
  obtain ⟨t1, d, od, J, _⟩ := x.inst I
  exact PySem.W.kia_one (PySem.W.kitx_exc T.cl T.ga T.gg T.ex T.ca A.gs A.tk T.mo) I.kIn J e (fun z => nomatch z)
    fun tk => ⟨.bl b, H, I.tok tk, rfl, q⟩
/-- e.f -/
def tAtt (K : PySem.W.Frag) (f : Str) (te : TE) : TE := fun σ H Q => te σ H fun x H1 => ∃ (a C : Addr) (fs : List (Str × V)) (v : V),
  x = .ref a ∧ XC K C ∧ ExAt H1 a C fs ∧ PySem.W.findIn K (.ref C) f = some none ∧ fs.lookup f = some v ∧ Q v H1
theorem pe_att {X : Cx} {e : Expr} {te : TE} {f : Str} {pos : Pos} (he : PE X e te)
    (hb : attributeBase e f X.env (eval e X.env) = eval e X.env := by rfl) : PE X (.Attribute e f pos) (tAtt X.K f te) := by
  constructor
  intro pins s σ H Q I h
  refine attr_of hb (thn (he.run pins s σ H _ I h) ?_)
  rintro u s1 ⟨x, H1, I1, rx, a, C, fs, v, rfl, T, at_, no, l, q⟩
  obtain rfl : u = Value.ref a := rx
  obtain ⟨t1, d, od, J, look⟩ := at_.inst I1
  obtain ⟨u, o, rfl, hu, ru⟩ := look f v l
  exact HandSPX.exc_get I1.kIn J T.ga T.gg T.ex (PySem.W.findObj_own T.hd no rfl hu) (handed_of ru) ⟨v, H1, I1.tok _, ru, q⟩
end PW
/-! PW2: small rules more -/
namespace PW
open PySem PySem.Spec PyProof.Rows L2 Evl
section
variable {X : Cx}
theorem reads_bools {h : Heap} : ∀ {bs : List Bool} {us : List Value}, Vals (bs.map V.bl) us → ReadsAll h us (bs.map PyData.bool) []
  | [], _, r => by
    cases r
    exact .nil
  | b :: bs, _, r => by
    cases r with
    | cons r1 r2 =>
      cases r1
      exact .cons (as := []) (bs := []) (.bool b) (reads_bools r2)
theorem all_bools : ∀ bs : List Bool, (bs.map PyData.bool).all Shape.bool.has = true
  | [] => rfl
  | b :: bs => by
    rw [List.map_cons, List.all_cons, all_bools bs]
    rfl
def rCntB (K : PySem.W.Frag) : V → List V → Hp → VK → Prop := fun x xs H Q => ∃ (p : Addr) (bs : List Bool) (k : Bool), x = .ref p ∧
  xs = [.bl k] ∧ SqL K H p (bs.map V.bl) ∧ Q (.int (countIn (.bool k) (bs.map PyData.bool))) H
/-- xs.count(True) of bools -/
theorem mt_countB : MtR X "list.count" (rCntB X.K) := by
  rintro pins s σ H x xs v us Q I rx rxs ⟨p, bs, k, rfl, rfl, hs, q⟩
  cases rx
  obtain ⟨u, rfl, ru⟩ := rxs.one
  cases ru
  obtain ⟨its, rv, ⟨o, n, ho, hc, hdn, hd⟩, hlen⟩ := I.list hs
  refine count_list_bools (l := p) (vs := its) (hp := s.heap) ⟨o, ho, hc, n, hd⟩ (reads_bools rv) (all_bools bs) ?_
  exact ⟨.int _, H, I.tok _, ⟨_, rfl⟩, q⟩
end
end PW
/-! PW3: readings that extend the heap, more of them -/
namespace PW
open PySem PySem.Spec PyProof.Rows L2 Evl
section
variable {K : PySem.W.Frag} {σ : L2.St} {H H' : Hp} {ta tb te : TE} {t : TA} {x y z v : V} {xs ys : List V}
theorem el_cat {l : Addr} (ha : Ev ta σ H (.ref l)) (hl : H l = some (.lst xs)) (hb : EvL tb σ H ys)
    (hz : xs.length + ys.length ≤ 100000) : EvL (tOp rCat ta tb) σ H (xs ++ ys) := fun H1 e Q q =>
  ha H1 e _ fun H2 e2 => hb H2 (e.trans e2) _ fun p H3 n3 e3 h3 =>
    ⟨l, p, xs, ys, rfl, rfl, ((e.trans e2).trans e3) _ _ hl, h3, sz_of hz, fun r hr =>
      q r _ (fresh_back (e2.trans e3) hr) ((e2.trans e3).trans (Ex.new hr)) upd_same⟩
theorem el_cat2 (ha : EvL ta σ H xs) (hb : EvL tb σ H ys)
    (hz : xs.length + ys.length ≤ 100000) : EvL (tOp rCat ta tb) σ H (xs ++ ys) := fun H1 e Q q =>
  ha H1 e _ fun l H2 n2 e2 h2 => hb H2 (e.trans e2) _ fun p H3 n3 e3 h3 =>
    ⟨l, p, xs, ys, rfl, rfl, e3 _ _ h2, h3, sz_of hz, fun r hr =>
      q r _ (fresh_back (e2.trans e3) hr) ((e2.trans e3).trans (Ex.new hr)) upd_same⟩
theorem ev_isX {c : V} {u : Value} {a C : Addr} {fs : List (Str × V)} {b : Bool} (ha : Ev ta σ H (.ref a)) (hc : Ev tb σ H c)
    (k : ClsV c u) (T : XC K C) (x : ExAt H a C fs) (e : PySem.W.kitOne K (.ref C) u = some b) :
    Ev (tCB (rIsX K) (tCons ta (tCons tb tNil))) σ H (.bl b) :=
  ev_cb (ea_cons ha (ea_cons hc ea_nil)) fun H1 ex Q q => ⟨a, C, fs, c, u, b, rfl, k, T, x.ext ex, e, q H1 (Ex.refl H1)⟩
theorem ev_countB {l : Addr} {bs : List Bool} {k : Bool} (ha : Ev ta σ H (.ref l)) (hl : H l = some (.lst (bs.map V.bl)))
    (hb : Ev tb σ H (.bl k)) : Ev (tBM K "list" (rCntB K) ta (tCons tb tNil)) σ H (.int (countIn (.bool k) (bs.map PyData.bool))) := fun H1 e Q q =>
  ha H1 e _ fun H2 e2 => ⟨.inl ⟨rfl, _, sq_of ((e.trans e2) _ _ hl)⟩, hb H2 (e.trans e2) _ fun H3 e3 =>
    ⟨l, bs, k, rfl, rfl, sq_of (((e.trans e2).trans e3) _ _ hl), q H3 (e2.trans e3)⟩⟩
theorem ev_index {l : Addr} {j : Nat} (ha : Ev ta σ H (.ref l)) (hl : H l = some (.lst xs)) (hb : Ev tb σ H y)
    (fy : flatV y = true) (fx : xs.all flatV = true) (hz : xs[j]? = some z) (hq : eqV z y = true)
    (hno : ∀ (m : Nat) (z' : V), m < j → xs[m]? = some z' → eqV z' y = false) :
    Ev (tBM K "list" (rIndex K) ta (tCons tb tNil)) σ H (.int (j : Nat)) := fun H1 e Q q =>
  ha H1 e _ fun H2 e2 => ⟨.inl ⟨rfl, _, sq_of ((e.trans e2) _ _ hl)⟩, hb H2 (e.trans e2) _ fun H3 e3 =>
    ⟨l, xs, y, j, z, rfl, rfl, sq_of (((e.trans e2).trans e3) _ _ hl), fy, fx, hz, hq, hno, q H3 (e2.trans e3)⟩⟩
/-- what is plain data stays so -/
theorem Dp.bools {l : Addr} {bs : List Bool} (h : H l = some (.lst (bs.map V.bl))) : Dp K H (.ref l) (.list (bs.map PyData.bool)) := by
  refine .lst (sq_of h) ?_
  clear h
  induction bs with
  | nil => exact .nil
  | cons b bs ih => exact .cons (.bl b) ih
mutual
theorem Dp.mono (e : Ex H H') : ∀ {v : V} {d : PyData}, Dp K H v d → Dp K H' v d
  | _, _, .non => .non
  | _, _, .bl b => .bl b
  | _, _, .int i => .int i
  | _, _, .str x => .str x
  | _, _, .lst h r => .lst (ex_l e h) (DpAll.mono e r)
  | _, _, .tup h r => .tup (ex_t e h) (DpAll.mono e r)
theorem DpAll.mono (e : Ex H H') : ∀ {vs : List V} {ds : List PyData}, DpAll K H vs ds → DpAll K H' vs ds
  | _, _, .nil => .nil
  | _, _, .cons h r => .cons (Dp.mono e h) (DpAll.mono e r)
end
mutual
theorem Dat.mono (e : Ex H H') : ∀ {v : V} {d : PyData}, Dat H v d → Dat H' v d
  | _, _, .non => .non
  | _, _, .bl b => .bl b
  | _, _, .int i => .int i
  | _, _, .str x => .str x
  | _, _, .lst h r => .lst (ex_rd e h) (Dats.mono e r)
  | _, _, .tup h r => .tup (ex_rd e h) (Dats.mono e r)
  | _, _, .dic h r => .dic (ex_rd e h) (Dats.mono e r)
theorem Dats.mono (e : Ex H H') : ∀ {vs : List V} {ds : List PyData}, Dats H vs ds → Dats H' vs ds
  | _, _, .nil => .nil
  | _, _, .cons h r => .cons (Dat.mono e h) (Dats.mono e r)
end
theorem ev_eqD {d e : PyData} (ha : Ev ta σ H x) (hb : Ev tb σ H y) (hx : Dp K H x d) (hy : Dp K H y e)
    (s1 : SeqAt.shaped d = true) (s2 : SeqAt.shaped e = true) : Ev (tOp (rEqD K) ta tb) σ H (.bl (PyData.eqv d e)) :=
  ev_op ha hb fun H1 ex Q q => ⟨d, e, Dp.mono ex hx, Dp.mono ex hy, s1, s2, q H1 (Ex.refl H1)⟩
theorem ev_neD {d e : PyData} (ha : Ev ta σ H x) (hb : Ev tb σ H y) (hx : Dp K H x d) (hy : Dp K H y e)
    (s1 : SeqAt.shaped d = true) (s2 : SeqAt.shaped e = true) : Ev (tOp (rNeD K) ta tb) σ H (.bl (!PyData.eqv d e)) :=
  ev_op ha hb fun H1 ex Q q => ⟨d, e, Dp.mono ex hx, Dp.mono ex hy, s1, s2, q H1 (Ex.refl H1)⟩
/-- the second operand a new list -/
theorem ev_eqDL {d e : PyData} (ha : Ev ta σ H x) (hb : EvL tb σ H ys) (hx : Dp K H x d)
    (hy : ∀ H1 p, Ex H H1 → H1 p = some (.lst ys) → Dp K H1 (.ref p) e)
    (s1 : SeqAt.shaped d = true) (s2 : SeqAt.shaped e = true) : Ev (tOp (rEqD K) ta tb) σ H (.bl (PyData.eqv d e)) :=
  ev_opL ha hb fun p H1 hp ex H2 e2 Q q => ⟨d, e, Dp.mono (ex.trans e2) hx, Dp.mono e2 (hy H1 p ex hp), s1, s2, q H2 (Ex.refl H2)⟩
theorem ev_neDL {d e : PyData} (ha : Ev ta σ H x) (hb : EvL tb σ H ys) (hx : Dp K H x d)
    (hy : ∀ H1 p, Ex H H1 → H1 p = some (.lst ys) → Dp K H1 (.ref p) e)
    (s1 : SeqAt.shaped d = true) (s2 : SeqAt.shaped e = true) : Ev (tOp (rNeD K) ta tb) σ H (.bl (!PyData.eqv d e)) :=
  ev_opL ha hb fun p H1 hp ex H2 e2 Q q => ⟨d, e, Dp.mono (ex.trans e2) hx, Dp.mono e2 (hy H1 p ex hp), s1, s2, q H2 (Ex.refl H2)⟩
theorem ev_chain {r r' : R2} {tc : TE} {w : V} {b c : Bool} (ha : Ev ta σ H x) (hb : Ev tb σ H y) (hc : Ev tc σ H w)
    (h1 : RV r x y H (.bl b)) (h2 : b = true → RV r' y w H (.bl c)) : Ev (tChain r r' ta tb tc) σ H (.bl (b && c)) := fun H1 e Q q =>
  ha H1 e _ fun H2 e2 => hb H2 (e.trans e2) _ fun H3 e3 => h1 H3 ((e.trans e2).trans e3) _ fun H4 e4 => ⟨b, rfl, by
    cases b with
    | true =>
      exact hc H4 (((e.trans e2).trans e3).trans e4) _ fun H5 e5 =>
        h2 rfl H5 ((((e.trans e2).trans e3).trans e4).trans e5) _ fun H6 e6 => q H6 ((((e2.trans e3).trans e4).trans e5).trans e6)
    | false => exact q H4 ((e2.trans e3).trans e4)⟩
/-- repr(e) -/
theorem ev_repr {d : PyData} (ha : Ev ta σ H x) (hx : Dat H x d) (sh : d.showable = true) (sz : d.shown.length ≤ sizeLine)
    (dp : d.depth ≤ 40) : Ev (tCB (rRepr K) (tCons ta tNil)) σ H (.str d.shown) :=
  ev_cb (ea_cons ha ea_nil) fun H1 e Q q => ⟨x, d, rfl, Dat.mono e hx, sh, sz, dp, q H1 (Ex.refl H1)⟩
end
end PW
/-! PW4: readings whose value is told by a property -/
namespace PW
open PySem PySem.Spec PyProof.Rows L2 Evl
/-- the abstract heap without p -/
def hide (p : Addr) (H : Hp) : Hp := fun b => if b = p then none else H b
theorem hide_ne {p b : Addr} {H : Hp} (h : b ≠ p) : hide p H b = H b := if_neg h
theorem hide_ex {p : Addr} {H : Hp} : Ex (hide p H) H := fun b o e => by
  by_cases q : b = p
  · rw [q] at e
    exact nomatch (if_pos rfl).symm.trans e
  · exact (hide_ne q).symm.trans e
/-- all but the spring at p is as it was -/
def But (p : Addr) (H H' : Hp) : Prop := ∀ b o, b ≠ p → H b = some o → H' b = some o
theorem But.hide {p : Addr} {H H' : Hp} (h : But p H H') : Ex (hide p H) (hide p H') := fun b o e => by
  by_cases q : b = p
  · rw [q] at e
    exact nomatch (if_pos rfl).symm.trans e
  · exact (hide_ne q).trans (h b o q ((hide_ne q).symm.trans e))
theorem But.of {p : Addr} {H H' : Hp} (h : Ex H H') : But p H H' := fun b o _ e => h b o e
theorem But.trans {p : Addr} {H H1 H2 : Hp} (a : But p H H1) (b : But p H1 H2) : But p H H2 := fun c o n e => b c o n (a c o n e)
theorem Ex.hide {p : Addr} {H H' : Hp} (h : Ex H H') : Ex (hide p H) (hide p H') := (But.of h).hide
/-- a new list at r stands in what is not hidden -/
theorem hide_new {p r : Addr} {H : Hp} {o : HO} (hp : H p ≠ none) (hr : H r = none) : hide p (upd H r o) r = some o :=
  (hide_ne fun (q : r = p) => hp (by rw [← q]; exact hr)).trans upd_same

/-- properties of a value that stay as the heap grows -/
def Mono {α : Type} (R : Hp → α → Prop) : Prop := ∀ H H' v, Ex H H' → R H v → R H' v
def EvR (te : TE) (σ : L2.St) (H : Hp) (R : Hp → V → Prop) : Prop := ∀ H1, Ex H H1 → ∀ Q : VK, (∀ v H2, Ex H1 H2 → R H2 v → Q v H2) → te σ H1 Q
def EvRs (ta : TA) (σ : L2.St) (H : Hp) (R : Hp → List V → Prop) : Prop :=
  ∀ H1, Ex H H1 → ∀ Q : List V → Hp → Prop, (∀ vs H2, Ex H1 H2 → R H2 vs → Q vs H2) → ta σ H1 Q
section
variable {K : PySem.W.Frag} {σ : L2.St} {H H' : Hp} {ta tb te : TE} {t : TA} {x y z v : V} {xs ys : List V} {R : Hp → V → Prop} {S : Hp → List V → Prop}
theorem EvR.mono (h : EvR te σ H R) (e : Ex H H') : EvR te σ H' R := fun H1 a => h H1 (e.trans a)
theorem EvR.imp {R' : Hp → V → Prop} (h : EvR te σ H R) (i : ∀ H1 v, Ex H H1 → R H1 v → R' H1 v) : EvR te σ H R' := fun H1 e Q q =>
  h H1 e Q fun v H2 e2 r => q v H2 e2 (i H2 v (e.trans e2) r)
theorem er_ev (h : Ev te σ H v) : EvR te σ H (fun _ u => u = v) := fun H1 e Q q => h H1 e Q fun H2 e2 => q v H2 e2 rfl
theorem er_of (h : Ev te σ H v) (r : ∀ H1, Ex H H1 → R H1 v) : EvR te σ H R := fun H1 e Q q => h H1 e Q fun H2 e2 => q v H2 e2 (r H2 (e.trans e2))
theorem ers_nil (h : ∀ H1, Ex H H1 → S H1 []) : EvRs tNil σ H S := fun H1 e Q q => q [] H1 (Ex.refl H1) (h H1 e)
theorem ers_cons {S' : Hp → List V → Prop} (hm : Mono R) (h : EvR te σ H R) (hr : EvRs t σ H S)
    (i : ∀ H1 v vs, Ex H H1 → R H1 v → S H1 vs → S' H1 (v :: vs)) : EvRs (tCons te t) σ H S' := fun H1 e Q q =>
  h H1 e _ fun v H2 e2 r => hr H2 (e.trans e2) _ fun vs H3 e3 s =>
    q (v :: vs) H3 (e2.trans e3) (i H3 v vs ((e.trans e2).trans e3) (hm _ _ _ e3 r) s)
/-- a written list of such values: where it lies, and what it holds -/
theorem er_lst (h : EvRs t σ H S) (hm : Mono S) (hz : ∀ H1 vs, S H1 vs → vs.length ≤ 100000) :
    EvR (tLst t) σ H (fun H1 v => ∃ r vs, v = .ref r ∧ H1 r = some (.lst vs) ∧ S H1 vs) := fun H1 e Q q =>
  h H1 e _ fun vs H2 e2 s => ⟨sz_of (hz _ _ s), fun r hr =>
    q (.ref r) _ (e2.trans (Ex.new hr)) ⟨r, vs, rfl, upd_same, hm _ _ _ (Ex.new hr) s⟩⟩

/-! ### plain data, made apart from a spring at p -/
def D1 (p : Addr) (d : PyData) (H : Hp) (v : V) : Prop := Dat (hide p H) v d
def Ds (p : Addr) (ds : List PyData) (H : Hp) (vs : List V) : Prop := Dats (hide p H) vs ds
theorem D1.mono {p : Addr} {d : PyData} : Mono (D1 p d) := fun _ _ _ e h => Dat.mono (Ex.hide e) h
theorem Ds.mono {p : Addr} {ds : List PyData} : Mono (Ds p ds) := fun _ _ _ e h => Dats.mono (Ex.hide e) h
theorem d_cons {p : Addr} {d : PyData} {ds : List PyData} (h : EvR te σ H (D1 p d)) (hr : EvRs t σ H (Ds p ds)) :
    EvRs (tCons te t) σ H (Ds p (d :: ds)) := ers_cons D1.mono h hr fun _ _ _ _ a b => .cons a b
theorem d_nil {p : Addr} : EvRs tNil σ H (Ds p []) := ers_nil fun _ _ => .nil
theorem d_non {p : Addr} : EvR (tC .non) σ H (D1 p .none) := er_of ev_c fun _ _ => .non
theorem d_bl {p : Addr} {b : Bool} : EvR (tC (.bl b)) σ H (D1 p (.bool b)) := er_of ev_c fun _ _ => .bl b
theorem d_int {p : Addr} {i : Int} : EvR (tC (.int i)) σ H (D1 p (.int i)) := er_of ev_c fun _ _ => .int i
theorem d_str {p : Addr} {s : Str} : EvR (tC (.str s)) σ H (D1 p (.str s)) := er_of ev_c fun _ _ => .str s
theorem d_pow {p : Addr} {i j : Int} (h : CPow i j) : EvR (tOp (rI CPow fun i j => .int (i ^ j.toNat)) (tC (.int i)) (tC (.int j))) σ H (D1 p (.int (i ^ j.toNat))) :=
  er_of (ev_op ev_c ev_c (rv_I h)) fun _ _ => .int _
theorem d_neg {p : Addr} {i : Int} : EvR (tUn (rU fun i => .int (-i)) (tC (.int i))) σ H (D1 p (.int (-i))) := er_of (ev_un ev_c ru_neg) fun _ _ => .int _
theorem d_tup {p : Addr} {ds : List PyData} (hp : H p ≠ none) (h : EvRs t σ H (Ds p ds)) (hz : ds.length ≤ 1000) : EvR (tTup t) σ H (D1 p (.tuple ds)) := fun H1 e Q q =>
  h H1 e _ fun vs H2 e2 s => ⟨sz_of (by rw [Dats.len s]; omega), fun r hr => by
    have hp2 : H2 p ≠ none := fun z => by
      obtain ⟨o, ho⟩ := Option.ne_none_iff_exists'.mp hp
      exact nomatch z.symm.trans ((e.trans e2) _ _ ho)
    exact q (.ref r) _ (e2.trans (Ex.new hr)) (.tup (.inl (hide_new hp2 hr)) (Dats.mono (Ex.hide (Ex.new hr)) s))⟩
theorem d_lst {p : Addr} {ds : List PyData} (hp : H p ≠ none) (h : EvRs t σ H (Ds p ds)) (hz : ds.length ≤ 1000) : EvR (tLst t) σ H (D1 p (.list ds)) := fun H1 e Q q =>
  h H1 e _ fun vs H2 e2 s => ⟨sz_of (by rw [Dats.len s]; omega), fun r hr => by
    have hp2 : H2 p ≠ none := fun z => by
      obtain ⟨o, ho⟩ := Option.ne_none_iff_exists'.mp hp
      exact nomatch z.symm.trans ((e.trans e2) _ _ ho)
    exact q (.ref r) _ (e2.trans (Ex.new hr)) (.lst (.inl (hide_new hp2 hr)) (Dats.mono (Ex.hide (Ex.new hr)) s))⟩
theorem d_dic0 {p : Addr} (hp : H p ≠ none) : EvR tDNewK σ H (D1 p (.dict [])) := fun H1 e Q q r hr => by
  have hp2 : H1 p ≠ none := fun z => by
    obtain ⟨o, ho⟩ := Option.ne_none_iff_exists'.mp hp
    exact nomatch z.symm.trans (e _ _ ho)
  exact q (.ref r) _ (Ex.new hr) (.dic (kvs := []) (ds := []) (.inl (hide_new hp2 hr)) .nil)
/-- {'..': e}, e a constant -/
theorem d_dic1 {p : Addr} {s : Str} {i : Int} (hp : H p ≠ none) : EvR (tDisp [(tC (.str s), tC (.int i))]) σ H (D1 p (.dict [(.str s, .int i)])) := fun H1 e Q q r hr => by
  have hp2 : H1 p ≠ none := fun z => by
    obtain ⟨o, ho⟩ := Option.ne_none_iff_exists'.mp hp
    exact nomatch z.symm.trans (e _ _ ho)
  refine ⟨upd_same, [(Sum.inr s, .int i)], rfl, Nat.le_of_ble_eq_true rfl, ?_⟩
  have eq : upd (upd H1 r (.dK [])) r (.dK (mergeK [] [(Sum.inr s, V.int i)])) = upd H1 r (.dK [(Sum.inr s, V.int i)]) := upd_upd
  rw [eq]
  exact q (.ref r) _ (Ex.new hr) (.dic (kvs := [(Sum.inr s, .int i)]) (ds := [.int i]) (.inl (hide_new hp2 hr)) (.cons (.int i) .nil))
/-- a list of such data is told by where it lies -/
theorem s_asgR {D : Ends} {i : Nat} (h : EvR te σ H R) (k : ∀ v H1, Ex H H1 → R H1 v → D.nx (σ.set i (some v)) H1) : tAsg te (gName i) D σ H :=
  h H (Ex.refl H) _ fun v H1 e r => k v H1 e r
theorem q_asgR {D : Ends} {tz : TS} {i : Nat} (h : EvR te σ H R) (k : ∀ v H1, Ex H H1 → R H1 v → tz D (σ.set i (some v)) H1) : tSeq (tAsg te (gName i)) tz D σ H :=
  s_asgR (D := { D with nx := tz D }) h k
/-- a written list of data: the list lies at r -/
def L1 (p : Addr) (ds : List PyData) (H : Hp) (v : V) : Prop := ∃ r vs, v = .ref r ∧ r ≠ p ∧ H r = some (.lst vs) ∧ Ds p ds H vs
theorem L1.mono {p : Addr} {ds : List PyData} : Mono (L1 p ds) := fun H H' v e ⟨r, vs, a, b, c, d⟩ => ⟨r, vs, a, b, e _ _ c, Ds.mono _ _ _ e d⟩
theorem l_lst {p : Addr} {ds : List PyData} (hp : H p ≠ none) (h : EvRs t σ H (Ds p ds)) (hz : ds.length ≤ 1000) : EvR (tLst t) σ H (L1 p ds) := fun H1 e Q q =>
  h H1 e _ fun vs H2 e2 s => ⟨sz_of (by rw [Dats.len s]; omega), fun r hr => by
    have hp2 : H2 p ≠ none := fun z => by
      obtain ⟨o, ho⟩ := Option.ne_none_iff_exists'.mp hp
      exact nomatch z.symm.trans ((e.trans e2) _ _ ho)
    exact q (.ref r) _ (e2.trans (Ex.new hr)) ⟨r, vs, rfl, fun z => hp2 (z ▸ hr), upd_same, Ds.mono _ _ _ (Ex.new hr) s⟩⟩
theorem dats_app {H : Hp} {ds es : List PyData} : ∀ {xs ys : List V}, Dats H xs ds → Dats H ys es → Dats H (xs ++ ys) (ds ++ es)
  | _, _, .nil, b => b
  | _, _, .cons a r, b => .cons a (dats_app r b)
theorem l_cat {p : Addr} {ds es : List PyData} (hp : H p ≠ none) (ha : EvR ta σ H (L1 p ds)) (hb : EvR tb σ H (L1 p es)) (hz : ds.length + es.length ≤ 1000) :
    EvR (tOp rCat ta tb) σ H (L1 p (ds ++ es)) := fun H1 e Q q =>
  ha H1 e _ fun v H2 e2 ⟨r, vs, ev, nr, hr, dr⟩ => hb H2 (e.trans e2) _ fun w H3 e3 ⟨r2, vs2, ew, nr2, hr2, dr2⟩ => by
    subst ev ew
    refine ⟨r, r2, vs, vs2, rfl, rfl, e3 _ _ hr, hr2, sz_of (by rw [Dats.len dr, Dats.len dr2]; omega), fun l hl => ?_⟩
    have hp2 : H3 p ≠ none := fun z => by
      obtain ⟨o, ho⟩ := Option.ne_none_iff_exists'.mp hp
      exact nomatch z.symm.trans (((e.trans e2).trans e3) _ _ ho)
    exact q (.ref l) _ ((e2.trans e3).trans (Ex.new hl)) ⟨l, _, rfl, fun z => hp2 (z ▸ hl), upd_same,
      Dats.mono (Ex.hide (Ex.new hl)) (dats_app (Dats.mono (Ex.hide e3) dr) dr2)⟩
theorem l_var {p : Addr} {ds : List PyData} {i : Nat} {v : V} (h : σ[i]? = some (some v)) (l : L1 p ds H v) : EvR (tVar i) σ H (L1 p ds) :=
  er_of (ev_var h) fun _ e => L1.mono _ _ _ e l
theorem dats_mem {H : Hp} : ∀ {xs : List V} {ds : List PyData} {x : V}, Dats H xs ds → x ∈ xs → ∃ d, d ∈ ds ∧ Dat H x d
  | _, _, _, .nil, h => by cases h
  | _, _, _, .cons a r, h => by
    rcases List.mem_cons.mp h with rfl | h
    · exact ⟨_, List.mem_cons_self, a⟩
    · obtain ⟨d, h1, h2⟩ := dats_mem r h
      exact ⟨d, List.mem_cons_of_mem _ h1, h2⟩
end
end PW
/-! R0: own classes: len, str, repr, ==, !=, bool of an instance; classmethods; making by a star -/
namespace PW
open PySem PySem.Spec PyProof.Rows L2
/-- a def's promise by position -/
theorem toR {P : Program} {w : World} {K : PySem.W.Frag} {mg : Str → Option Value} {base : Heap} {CX : CXT} {k : Nat} {f : Addr} {fd : FuncData} {ps : List Str} {sp : Sp}
    (F : FnOk P w K mg base CX k f fd ps sp) (b : Binds K fd ps []) : FnR P w K mg base CX k f sp := fun A outer s H us vs Q E hr e0 r h => by
  have KX : K.In s.heap := e0.mod.kin.keeps fun b o e => (e0.bs b o e).1
  have hl : (us ++ ([] : List Value)).length = ps.length := by
    rw [List.append_nil, ← r.length]
    exact F.len _ _ _ _ h
  have z := b s us KX hl
  rw [List.append_nil] at z
  exact F.run A outer s H ⟨us, []⟩ us vs Q E hr e0 z r h
section
variable {X : Cx} {CX : CXT} {C g : Addr} {n : Nat} {sp : Sp} {E : XK}
theorem ins_at {pins : List (Addr × Obj)} {σ : L2.St} {H : Hp} {s : Shared} {a dx : Addr} {fs : List (Str × V)} (I : Inv X pins σ H s) (ea : H a = some (.ins C dx fs)) :
    ∃ ox od, PySem.W.InstAt s.heap a ox C od := by
  obtain ⟨mA, O, _, _, _, _⟩ := ins_get I.hok ea
  obtain ⟨od, J, _⟩ := O.look
  exact ⟨_, _, J⟩
/-- len(o) by o's own __len__ -/
def rLenO (C : Addr) (sp : Sp) (E : XK) : List V → Hp → VK → Prop := fun xs H Q => ∃ a dx fs, xs = [V.ref a] ∧ H a = some (.ins C dx fs) ∧
  sp [.ref a] H (fun z H' => ∃ n : Nat, z = .int n ∧ n ≤ 1000000 ∧ Q (.int n) H') E
theorem call_lenO (hs : PySem.W.findIn X.K (.ref C) "__len__" = some (some (.ref g))) (hf : PySem.W.isFn X.K (.ref g) = true) (F : FnR X.prog X.w X.K X.mg X.base CX n g sp)
    (hr : Room (n + 1) X.A) (hx : Passes CX X E) : CallR X (.builtin "len") (rLenO C sp E) := by
  intro pins s σ H xs us Q I r h
  obtain ⟨a, dx, fs, rfl, ea, q⟩ := h
  obtain rfl := Vals.ref1 r
  obtain ⟨ox, od, J⟩ := ins_at I ea
  obtain ⟨m, hF⟩ := I.fr
  refine PySem.W.len_K hF I.ok.mod.kin J hs hf (wpAny_mono (wpAny_call (SlX.run_at (us := [.ref a]) (ws := [.ref a]) F hr.in1 I.env0.in1 hx I (.cons rfl .nil) q)) (fun w s' z => ?_) fun _ _ x => x)
  obtain ⟨z', H', I', rz, i, ei, hi, qz⟩ := z
  subst ei
  obtain ⟨t, e⟩ := (show ∃ t, w = Value.int i t from rz)
  subst e
  exact ⟨⟨by omega, by omega⟩, .int i, H', I'.tok _, ⟨_, rfl⟩, qz⟩
def rStrO (C : Addr) (sp : Sp) (E : XK) : List V → Hp → VK → Prop := fun xs H Q => ∃ a dx fs, xs = [V.ref a] ∧ H a = some (.ins C dx fs) ∧
  sp [.ref a] H (fun z H' => ∃ y : Str, z = .str y ∧ Q (.str y) H') E
/-- str(o) by o's own __str__ -/
theorem call_strO (hs : PySem.W.findIn X.K (.ref C) "__str__" = some (some (.ref g))) (hf : PySem.W.isFn X.K (.ref g) = true) (F : FnR X.prog X.w X.K X.mg X.base CX n g sp)
    (hr : Room (n + 2) X.A) (hx : Passes CX X E) : CallR X (.type "str") (rStrO C sp E) := by
  intro pins s σ H xs us Q I r h
  obtain ⟨a, dx, fs, rfl, ea, q⟩ := h
  obtain rfl := Vals.ref1 r
  obtain ⟨ox, od, J⟩ := ins_at I ea
  have hr2 : Room n X.A.in1.in1 := (show Room (n + 1) X.A.in1 from Room.in1 hr).in1
  refine PySem.W.kso_call hr2.units0 I.kIn J hs hf (wpAny_mono (wpAny_call (SlX.run_at (us := [.ref a]) (ws := [.ref a]) F hr2 I.env0.in1.in1 hx I (.cons rfl .nil) q)) (fun w s' z => ?_) fun _ _ x => x)
  obtain ⟨z', H', I', rz, y, ei, qz⟩ := z
  subst ei
  obtain ⟨t, e⟩ := (show ∃ t, w = Value.str y t from rz)
  subst e
  exact ⟨.str y, H', I', ⟨_, rfl⟩, qz⟩
/-- repr(o) by o's own __repr__ -/
theorem call_reprO (hs : PySem.W.findIn X.K (.ref C) "__repr__" = some (some (.ref g))) (hf : PySem.W.isFn X.K (.ref g) = true) (F : FnR X.prog X.w X.K X.mg X.base CX n g sp)
    (hr : Room (n + 1) X.A) (hx : Passes CX X E) : CallR X (.builtin "repr") (rStrO C sp E) := by
  intro pins s σ H xs us Q I r h
  obtain ⟨a, dx, fs, rfl, ea, q⟩ := h
  obtain rfl := Vals.ref1 r
  obtain ⟨ox, od, J⟩ := ins_at I ea
  obtain ⟨m, hF⟩ := I.fr
  refine PySem.W.repr_K hr.in1.units0 hF I.ok.mod.kin J hs hf (wpAny_mono (wpAny_call (SlX.run_at (us := [.ref a]) (ws := [.ref a]) F hr.in1 I.env0.in1 hx I (.cons rfl .nil) q)) (fun w s' z => ?_) fun _ _ x => x)
  obtain ⟨z', H', I', rz, y, ei, qz⟩ := z
  subst ei
  obtain ⟨t, e⟩ := (show ∃ t, w = Value.str y t from rz)
  subst e
  exact ⟨.str y, H', I', ⟨_, rfl⟩, qz⟩
/-- the type of a value -/
theorem ty_of {pins : List (Addr × Obj)} {σ : L2.St} {H : Hp} {s : Shared} {x : V} {u t : Value} {M : Model} (I : Inv X pins σ H s) (rx : RelV x u) (ty : TyX X.K H x t) : PySem.W.Looks M s.heap (typeOf u) t := by
  have byo : ∀ {a : Addr} {o : Obj}, s.heap.get? a = some o → PySem.W.Looks M s.heap (typeOf (.ref a)) o.cls := fun ho A Q E s' k q => wpAny_typeOf_ref (k _ _ ho) q
  cases ty with
  | base b =>
    cases b with
    | non => cases (show u = Value.none from rx); exact .of_pure rfl
    | bl y => cases (show u = Value.bool y from rx); exact .of_pure rfl
    | int i => obtain ⟨t, q⟩ := (show ∃ t, u = Value.int i t from rx); cases q; exact .of_pure rfl
    | str y => obtain ⟨t, q⟩ := (show ∃ t, u = Value.str y t from rx); cases q; exact .of_pure rfl
    | flt y => obtain ⟨t, q⟩ := (show ∃ t, u = Value.float y t from rx); cases q; exact .of_pure rfl
    | @lst a xs ea =>
      cases (show u = Value.ref a from rx)
      obtain ⟨_, _, n, _, h1⟩ := (show ObjOk X.prog X.w H s.heap a (.lst xs) from I.hok a _ ea)
      exact byo h1
    | @frz a ob xs ea =>
      cases (show u = Value.ref a from rx)
      obtain ⟨_, _, _, n, _, h1⟩ := (show ObjOk X.prog X.w H s.heap a (.frz ob (.lst xs)) from I.hok a _ ea)
      exact byo h1
    | @tup a xs ea =>
      cases (show u = Value.ref a from rx)
      obtain ⟨_, _, _, o, h1, h2, _⟩ := (show ObjOk X.prog X.w H s.heap a (.tup xs) from I.hok a _ ea)
      exact h2 ▸ byo h1
    | @dK a kvs ea =>
      cases (show u = Value.ref a from rx)
      obtain ⟨_, _, vs, _, o, es, ep, h1, h2, _⟩ := (show ObjOk X.prog X.w H s.heap a (.dK kvs) from I.hok a _ ea)
      exact h2.1 ▸ byo h1
    | @dT a kvs ea =>
      cases (show u = Value.ref a from rx)
      obtain ⟨_, _, xs, _, o, es, ep, h1, h2, _⟩ := (show ObjOk X.prog X.w H s.heap a (.dT kvs) from I.hok a _ ea)
      exact h2.1 ▸ byo h1
    | @ins a C dx fs ea cl ha hn htk hm =>
      cases (show u = Value.ref a from rx)
      obtain ⟨ox, od, J⟩ := ins_at I ea
      exact J.type
  | byt y => obtain ⟨t, q⟩ := (show ∃ t, u = Value.bytes y t from rx); cases q; exact .of_pure rfl
  | @set a S n ea =>
    cases (show u = Value.ref a from rx)
    obtain ⟨o, _, _, _, e, ex, _⟩ := I.hok a _ ea
    exact ex.1 ▸ byo e
  | @kList a o e c =>
    cases (show u = Value.ref a from rx)
    exact c ▸ byo (I.kIn a o e)
  | @kTuple a o e c =>
    cases (show u = Value.ref a from rx)
    exact c ▸ byo (I.kIn a o e)
  | @kDict a o e c =>
    cases (show u = Value.ref a from rx)
    exact c ▸ byo (I.kIn a o e)
  | @fTuple a ob xs ea =>
    cases (show u = Value.ref a from rx)
    obtain ⟨_, _, _, _, o, h1, h2, _⟩ := (show ObjOk X.prog X.w H s.heap a (.frz ob (.tup xs)) from I.hok a _ ea)
    exact h2 ▸ byo h1
  | @fDict a ob kvs ea =>
    cases (show u = Value.ref a from rx)
    obtain ⟨_, _, _, vs, _, o, es, ep, h1, h2, _⟩ := (show ObjOk X.prog X.w H s.heap a (.frz ob (.dK kvs)) from I.hok a _ ea)
    exact h2.1 ▸ byo h1
/-- o == x by o's own __eq__ -/
def rEqO (K : PySem.W.Frag) (C : Addr) (sp : Sp) (E : XK) : R2 := fun x y H Q => ∃ a dx fs t, x = .ref a ∧ H a = some (.ins C dx fs) ∧ TyX K H y t ∧ PySem.W.notFirst K C t = true ∧ sp [x, y] H Q E
theorem op_eqO (hs : PySem.W.findIn X.K (.ref C) "__eq__" = some (some (.ref g))) (hf : PySem.W.isFn X.K (.ref g) = true) (F : FnR X.prog X.w X.K X.mg X.base CX n g sp)
    (hr : Room n X.A) (hx : Passes CX X E) : OpR X (compareOp .Eq) (rEqO X.K C sp E) := by
  intro pins s σ H x y v u Q I rx ry h
  obtain ⟨a, dx, fs, t, rfl, ea, ty, hn, q⟩ := h
  cases (show v = Value.ref a from rx)
  obtain ⟨ox, od, J⟩ := ins_at I ea
  obtain ⟨m, hF⟩ := I.fr
  show wpAny _ _ (richCompare .Eq _ _) _ _ _
  refine PySem.W.cmp_K (op := .Eq) (tb := t) hr.units0 hF I.ok.mod.kin J (ty_of I ry ty) hn hs hf ?_
  refine wpAny_mono (wpAny_call (run_fnR (us := [.ref a, u]) (vs := [.ref a, y]) F hr hx I (.cons rfl (.cons ry .nil)) q)) (fun w s' z => ?_) fun _ _ x => x
  obtain ⟨z', H', I', rz, qz⟩ := z
  exact SlX.cmpback rz ⟨z', H', I', rz, qz⟩
end
end PW
namespace PW
open PySem PySem.Spec PyProof.Rows L2
section
variable {prog : Program} {w : World} {A : Around} {E : Value → Shared → Prop} {s : Shared} {K : PySem.W.Frag} {x C f : Addr} {ox : Obj} {od : Option Obj} {b tb : Value}
theorem bound_B {M : Model} {name : Str} {id : String} {args : List Value} {Q : Option Value → Shared → Prop} (X : K.In s.heap) (I : PySem.W.InstAt s.heap x ox C od)
    (hs : PySem.W.findIn K (.ref C) name = some (some (.builtin id))) (hb : ∀ self, bindSpecial (.builtin id) self = pure (.builtin id, [self]))
    (h : wpAny M A (call (.builtin id) (.ref x :: args)) (fun v => Q (some v)) E s) : wpAny M A (callSpecialIfBound? (.ref x) name args) Q E s := by
  unfold callSpecialIfBound? bindSpecialIfBound?
  refine wpAny_holding (wpAny_bind (wpAny_bind (wpAny_bind (I.type.here ((PySem.W.looks_findIn X hs).here (wpAny_bind (wpAny_askSetting (wpAny_ite ?_))))))))
  have fin : wpAny M A (call (.builtin id) ([.ref x] ++ args) >>= fun v => pure (some v)) Q E s := wpAny_bind (wpAny_mono h (fun v s' z => wpAny_pure z) fun _ _ z => z)
  have go : PySem.W.Looks M s.heap (bindSpecial (.builtin id) (.ref x)) (.builtin id, [.ref x]) := .of_pure (hb _)
  split
  · exact wpAny_bind (go.here (wpAny_pure (by exact fin)))
  · exact wpAny_tryCatch (wpAny_bind (go.here (wpAny_pure (by exact fin))))
/-- a comparison that the left one's own attempt answers -/
theorem cmp_by {op : CmpOp} {Q : Value → Shared → Prop} (hu : A.units < cLine) (X : K.In s.heap) (I : PySem.W.InstAt s.heap x ox C od) (hb : PySem.W.Looks (model prog w) s.heap (typeOf b) tb)
    (hn : PySem.W.notFirst K C tb = true) (one : wpAny (model prog w) A (tryCompare (.ref x) (cmpInfo op).2.1 b) (fun r s' => ∃ v, r = some v ∧ Q v s') E s) :
    wpAny (model prog w) A (richCompare op (.ref x) b) Q E s := by
  have fin : wpAny (model prog w) A (tryCompare (.ref x) (cmpInfo op).2.1 b) (fun r s' => ∃ v, r = some v ∧ Q v s') E s := one
  unfold richCompare
  rw [oneThing_ref]
  refine wpAny_holding (wpAny_bind (wpAny_cRoomFor hu (wpAny_bind (I.type.here (wpAny_bind (hb.here ?_))))))
  by_cases q : (Value.ref C != tb) = true
  · have e : PySem.W.subIn K tb (.ref C) = some false := by
      rcases Bool.or_eq_true_iff.mp hn with e | e
      · have := beq_iff_eq.mp e
        subst this
        simp at q
      · exact beq_iff_eq.mp e
    rw [if_pos q]
    refine wpAny_bind ((PySem.W.looks_subIn X e).here ?_)
    simp only [if_false, Bool.false_eq_true]
    refine wpAny_bind (wpAny_mono fin (fun r s' z => ?_) fun _ _ e => e)
    obtain ⟨v, rfl, hq⟩ := z
    exact wpAny_pure hq
  · rw [if_neg q]
    refine wpAny_bind (wpAny_pure ?_)
    simp only [if_false, Bool.false_eq_true]
    refine wpAny_bind (wpAny_mono fin (fun r s' z => ?_) fun _ _ e => e)
    obtain ⟨v, rfl, hq⟩ := z
    exact wpAny_pure hq
theorem ne_by {Q : Value → Shared → Prop} (hu : A.units < cLine) (hu1 : A.in1.units < cLine) (X : K.In s.heap) (I : PySem.W.InstAt s.heap x ox C od) (hb : PySem.W.Looks (model prog w) s.heap (typeOf b) tb)
    (hn : PySem.W.notFirst K C tb = true) (hne : PySem.W.findIn K (.ref C) "__ne__" = some (some (.builtin "object.__ne__"))) (hm : PySem.W.mroIn K C (.type "object") = some true)
    (hs : PySem.W.findIn K (.ref C) "__eq__" = some (some (.ref f))) (hf : PySem.W.isFn K (.ref f) = true)
    (h : wpAny (model prog w) A.in1 (call (.ref f) [.ref x, b]) (fun v s' => ∃ k, v = .bool k ∧ Q (.bool (!k)) s') E s) : wpAny (model prog w) A (richCompare .NotEq (.ref x) b) Q E s := by
  refine cmp_by hu X I hb hn ?_
  unfold tryCompare
  refine wpAny_bind (bound_B X I hne PySem.F.cmp_object.ne.bind (wpAny_call (codeAny_call_builtin PySem.F.cmp_object.ne.plain PySem.F.cmpEntry_ne
    (PySem.W.check_slot PySem.F.cmpKind_ne PySem.F.cmpSplit_ne (I.type.andThen (PySem.W.looks_mroIn X hm)) (PySem.F.cmpArgs_ne _ _) ?_))))
  unfold Builtin.«object.__ne__»
  refine wpAny_bind (m := slotArgs "__ne__" 1 _) (wpAny_pure (wpAny_bind (m := cRoomFor _ _) (wpAny_cRoomFor hu1 ?_)))
  refine wpAny_bind (m := callSpecialIfBound? (.ref x) (Str.ofString "__eq__") [b]) (PySem.W.ifBound_K X I hs hf (wpAny_mono h (fun v s' z => ?_) fun _ _ z => z))
  obtain ⟨k, rfl, hq⟩ := z
  refine wpAny_bind (m := truthy (.bool k)) (wpAny_truthy_bool (wpAny_pure ?_))
  exact wpAny_pure ⟨_, rfl, hq⟩
end
section
variable {X : Cx} {CX : CXT} {C g : Addr} {n : Nat} {sp : Sp} {E : XK}
/-- o != x by o's own __eq__ -/
def rNeO (K : PySem.W.Frag) (C : Addr) (sp : Sp) (E : XK) : R2 := fun x y H Q => ∃ a dx fs t, x = .ref a ∧ H a = some (.ins C dx fs) ∧ TyX K H y t ∧ PySem.W.notFirst K C t = true ∧
  sp [x, y] H (fun z H' => ∃ k : Bool, z = .bl k ∧ Q (.bl (!k)) H') E
theorem op_neO (hs : PySem.W.findIn X.K (.ref C) "__eq__" = some (some (.ref g))) (hne : PySem.W.findIn X.K (.ref C) "__ne__" = some (some (.builtin "object.__ne__"))) (hm : PySem.W.mroIn X.K C (.type "object") = some true)
    (hf : PySem.W.isFn X.K (.ref g) = true) (F : FnR X.prog X.w X.K X.mg X.base CX n g sp) (hr : Room (n + 1) X.A) (hx : Passes CX X E) : OpR X (compareOp .NotEq) (rNeO X.K C sp E) := by
  intro pins s σ H x y v u Q I rx ry h
  obtain ⟨a, dx, fs, t, rfl, ea, ty, hn, q⟩ := h
  cases (show v = Value.ref a from rx)
  obtain ⟨ox, od, J⟩ := ins_at I ea
  show wpAny _ _ (richCompare .NotEq _ _) _ _ _
  refine ne_by hr.units0 hr.in1.units0 I.kIn J (ty_of I ry ty) hn hne hm hs hf ?_
  refine wpAny_mono (wpAny_call (SlX.run_at (us := [.ref a, u]) (ws := [.ref a, y]) F hr.in1 I.env0.in1 hx I (.cons rfl (.cons ry .nil)) q)) (fun w s' z => ?_) fun _ _ x => x
  obtain ⟨z', H', I', rz, k, ek, qz⟩ := z
  subst ek
  obtain rfl : w = Value.bool k := rz
  exact ⟨k, rfl, .bl (!k), H', I', rfl, qz⟩
end
end PW
namespace PW
open PySem PySem.Spec PyProof.Rows L2
section
variable {prog : Program} {w : World} {A : Around} {E : Value → Shared → Prop} {s : Shared} {K : PySem.W.Frag} {x C f : Addr} {ox : Obj} {od : Option Obj}
theorem truthy_len {Q : Bool → Shared → Prop} (X : K.In s.heap) (I : PySem.W.InstAt s.heap x ox C od) (hb : PySem.W.findIn K (.ref C) "__bool__" = some none)
    (hl : PySem.W.findIn K (.ref C) "__len__" = some (some (.ref f))) (hf : PySem.W.isFn K (.ref f) = true)
    (h : wpAny (model prog w) A.in1 (call (.ref f) [.ref x]) (fun v s' => ∃ n t, v = .int n t ∧ 0 ≤ n ∧ n < 2 ^ 63 ∧ Q (n != 0) { s' with toks := s'.toks + 1 }) E s) :
    wpAny (model prog w) A (truthy (.ref x)) Q E s := by
  have key : wpAny (model prog w) A (runValue (.builtin "len" ⟨[.ref x], []⟩)) (fun r s' => ∃ n t, r = .int n t ∧ Q (n != 0) s') E s := by
    refine wpAny_runValue (codeAny_builtin entry_len ?_)
    rw [Around.under_plainId plain_len _]
    unfold Builtin.«len»
    refine wpAny_bind (m := oneArg "len" _) (wpAny_pure (wpAny_bind (m := callSpecial? (.ref x) (Str.ofString "__len__")) (PySem.W.special_fn X I hl (beq_iff_eq.mp hf) (wpAny_mono h (fun r s' hr => ?_) fun _ _ y => y))))
    obtain ⟨n, t, rfl, h0, h1, hq⟩ := hr
    refine wpAny_bind (wpAny_holding (wpAny_pure (wpAny_bind (wpAny_letGo ?_))))
    have a1 : ¬ n < 0 := by omega
    have a2 : ¬ n ≥ 2 ^ 63 := by omega
    simp only [if_neg a1, if_neg a2]
    exact wpAny_bind (wpAny_mkInt (wpAny_pure ⟨n, _, rfl, hq⟩))
  unfold truthy
  refine wpAny_bind (m := callSpecial? (.ref x) (Str.ofString "__bool__")) (wpAny_bind (wpAny_bind (I.type.here ((PySem.W.looks_findIn X hb).here (wpAny_pure (wpAny_bind (wpAny_bind (I.type.here ((PySem.W.looks_findIn X hl).here ?_)))))))))
  refine wpAny_bind (wpAny_mono key (fun r s' hr => ?_) fun _ _ y => y)
  obtain ⟨n, t, rfl, hq⟩ := hr
  exact wpAny_pure hq
theorem bool_len {Q : Value → Shared → Prop} (X : K.In s.heap) (I : PySem.W.InstAt s.heap x ox C od) (hb : PySem.W.findIn K (.ref C) "__bool__" = some none)
    (hl : PySem.W.findIn K (.ref C) "__len__" = some (some (.ref f))) (hf : PySem.W.isFn K (.ref f) = true)
    (h : wpAny (model prog w) A.in1.in1.in1 (call (.ref f) [.ref x]) (fun v s' => ∃ n t, v = .int n t ∧ 0 ≤ n ∧ n < 2 ^ 63 ∧ Q (.bool (n != 0)) { s' with toks := s'.toks + 1 }) E s) :
    wpAny (model prog w) A (call (.type "bool") [.ref x]) Q E s := by
  refine callType_codes (T := "bool") (Bi := Builtin.«object.__init__») (Q₁ := fun r s₁ => ∃ k, r = .bool k ∧ Q r s₁) PySem.F.called_bool (PySem.F.typeCall_bool_1 _) PySem.F.entry_object_init ?_ ?_
  · refine codeAny_of_tree ?_
    show wpAny _ A.in1.in1 (checkBuiltinCall "bool.__new__" ⟨[.type "bool", .ref x], []⟩ >>= fun _ => again (.builtin "bool.__new__" ⟨[.type "bool", .ref x], []⟩)) _ _ s
    refine wpAny_bind (wpAny_of_eq (PySem.F.newCall_bool_1 _) (wpAny_pure ⟨plainId_quiet (by decide +kernel) _, codeAny_builtin PySem.F.entry_bool_new ?_⟩))
    rw [Around.under_plainId (by decide +kernel) _]
    have fin : wpAny (model prog w) A.in1.in1 (truthy (.ref x)) (fun k s₁ => Q (.bool k) s₁) E s :=
      truthy_len X I hb hl hf (wpAny_mono h (fun v s' z => z) fun _ _ z => z)
    unfold Builtin.«bool.__new__»
    refine wpAny_bind (m := isType _) (wpAny_pure (wpAny_bind (m := isSubtype _ _) (wpAny_of_eq PySem.F.conv_sub_bool (wpAny_bind (m := someArgs "bool" 0 1 _) (wpAny_pure ?_)))))
    exact wpAny_bind (wpAny_mono fin (fun k s₁ hk => wpAny_pure ⟨k, rfl, hk⟩) fun _ _ z => z)
  · rintro obj s₁ ⟨k, rfl, hq⟩
    exact ⟨PySem.typeIs_bool _ _, PySem.F.args_object_init_2 _ _, object_init_meets PySem.F.called_bool.init.lookup PySem.F.called_bool.made (by decide) prog w A.in1 _ s₁ ⟨PySem.typeIs_bool _ _, rfl, hq⟩⟩
end
section
variable {X : Cx} {CX : CXT} {C g : Addr} {n : Nat} {sp : Sp} {E : XK}
/-- bool(o) by o's own __len__ -/
def rBoolO (C : Addr) (sp : Sp) (E : XK) : List V → Hp → VK → Prop := fun xs H Q => ∃ a dx fs, xs = [V.ref a] ∧ H a = some (.ins C dx fs) ∧
  sp [.ref a] H (fun z H' => ∃ n : Nat, z = .int n ∧ n ≤ 1000000 ∧ Q (.bl ((n : Int) != 0)) H') E
theorem call_boolO (hb : PySem.W.findIn X.K (.ref C) "__bool__" = some none) (hs : PySem.W.findIn X.K (.ref C) "__len__" = some (some (.ref g))) (hf : PySem.W.isFn X.K (.ref g) = true)
    (F : FnR X.prog X.w X.K X.mg X.base CX n g sp) (hr : Room (n + 3) X.A) (hx : Passes CX X E) : CallR X (.type "bool") (rBoolO C sp E) := by
  intro pins s σ H xs us Q I r h
  obtain ⟨a, dx, fs, rfl, ea, q⟩ := h
  obtain rfl := Vals.ref1 r
  obtain ⟨ox, od, J⟩ := ins_at I ea
  have hr3 : Room n X.A.in1.in1.in1 := (show Room (n + 1) X.A.in1.in1 from (show Room (n + 2) X.A.in1 from Room.in1 hr).in1).in1
  refine bool_len I.kIn J hb hs hf (wpAny_mono (wpAny_call (SlX.run_at (us := [.ref a]) (ws := [.ref a]) F hr3 I.env0.in1.in1.in1 hx I (.cons rfl .nil) q)) (fun w s' z => ?_) fun _ _ x => x)
  obtain ⟨z', H', I', rz, i, ei, hi, qz⟩ := z
  subst ei
  obtain ⟨t, e⟩ := (show ∃ t, w = Value.int i t from rz)
  subst e
  exact ⟨_, _, rfl, by omega, by omega, .bl _, H', I'.tok _, rfl, qz⟩
end
/-! ### classmethods called by name, and the class in a local called with a star -/
section
variable {X : Cx} {CX : CXT} {k : Nat} {C p g : Addr} {mc : Value} {sp : Sp} {E : XK} {o : Expr} {m : Str} {pos apos : Pos} {ta : TE} {t : TA} {pl : Sem Bool} {kws : List Keyword} {ks : List Str}
  {fd : FuncData} {ps : List Str}
/-- e.m(k = v, ..), e the class at C, m a classmethod; the keywords in the order of the parameters -/
theorem pe_cmethK (he : PE X o ta) (r : ClX.CRead X.K C mc) (c : ClX.CMet X.K C mc m p g) (F : FnOk X.prog X.w X.K X.mg X.base CX k g fd ps sp) (hr : Room k X.A) (hx : Passes CX X E) (ha : PK X kws t)
    (hbs : ∀ (s : Shared) (a : Addr) (us : List Value), us.length = ks.length → BindsTo s fd ⟨[.ref a], ks.zip us⟩ (ps.zip (.ref a :: us)))
    (hps : ps.length = ks.length + 1)
    (hall : (backToKw pos (keywordEach kws X.env)).all (·.1.isSome) = true := by rfl)
    (hks : (backToKw pos (keywordEach kws X.env)).filterMap (·.1) = ks := by rfl)
    (hpl : (backToKw pos (keywordEach kws X.env)).any (·.1.isNone) = false := by rfl)
    (ht : eval (.Call (.Attribute o m apos) [] kws pos) X.env = (do
      let ov ← eval o X.env
      standAt apos.atName
      let (f, first) ← holding [ov] (getMethod ov m pl)
      callWith pos f first (backTo pos (starEach [] X.env)) (backToKw pos (keywordEach kws X.env))) := by rfl) :
    PE X (.Call (.Attribute o m apos) [] kws pos) (ClX.tCMeth C sp E ta t) := by
  refine ⟨fun pins s σ H Q I h => ?_⟩
  refine PySem.W.methodCall_KW (pl := pl) (thn (he.run pins s σ H _ I h) fun u s1 ⟨x, H1, I1, rx, ex, q⟩ => ?_) ht
  subst ex
  obtain rfl : u = Value.ref C := rx
  refine ClX.getmethcm_ok I1 r c fun s2 I2 => ?_
  refine PySem.W.callWith_of (by rw [hpl]; rfl) (PySem.W.keeps_M c.fi) (PyProof.Rows.evalArgs_kw2_nil hall (thn (ha.run pos _ s2 σ H1 _ I2 q) fun us s3 ⟨vs, H2, I3, rv, q2⟩ => ⟨⟨ClX.pin_at I3, I3.kIn⟩, ?_⟩))
  rw [hks]
  have hl : us.length = ks.length := by
    have := F.len _ _ _ _ q2
    have e := rv.length
    rw [hps, List.length_cons] at this
    omega
  have z : wpAny (model X.prog X.w) X.A (call (.ref s1.heap.objs.size) [] (ks.zip us)) (EP X ((s1.heap.objs.size, PySem.W.methodObj (.ref g) (.ref C)) :: pins) σ Q) X.xe s3 := by
    refine wpAny_call (PySem.W.method_call (ClX.pin_at I3) ?_)
    refine codeAny_mono (F.run X.A X.stack s3 H2 ⟨[.ref C], ks.zip us⟩ (.ref C :: us) (.ref C :: vs) Q E hr I3.env0 (hbs s3 C us hl) (.cons rfl rv) q2) fun r s' hq => ?_
    match r, hq with
    | .error er, hq => exact hx _ σ H2 s3 er s' I3 hq
    | .ok (.ret u), hq => exact I3.after hq
    | .ok .next, hq => exact False.elim hq
    | .ok .brk, hq => exact False.elim hq
    | .ok .cont, hq => exact False.elim hq
  exact thn z fun _ _ y => ClX.unpinE y
end
section
variable {X : Cx} {CX : CXT} {k : Nat} {f C : Addr} {sp : Sp} {E : XK} {x : Str} {e : Expr} {te tf : TE} {p pos sp_ : Pos}
/-- c(*e), c a name that holds the class at C -/
def tMakeS (K : PySem.W.Frag) (C : Addr) (sp : Sp) (E : XK) (tf te : TE) : TE := fun σ H Q => tf σ H fun c H0 => c = .ref C ∧ te σ H0 fun y H1 => ∃ a xs, y = V.ref a ∧ (SqT K H1 a xs ∨ SqL K H1 a xs) ∧
  ∀ x dx, H1 x = none → H1 dx = none → dx ≠ x → sp (V.ref x :: xs) (upd (upd H1 dx (.own x)) x (.ins C dx [])) (fun v H2 => v = .non ∧ Q (.ref x) H2) E
theorem pe_makeS (M : Mk X.K C f) (F : FnR X.prog X.w X.K X.mg X.base CX k f sp) (hr : Room (k + 1) X.A) (hx : Passes CX X E) (hc : PE X (.Name x p) tf) (he : PE X e te)
    (ht : eval (.Call (.Name x p) [.Starred e sp_] [] pos) X.env = (do callWith pos (← eval (.Name x p) X.env) [] (backTo pos (starEach [.Starred e sp_] X.env)) (backToKw pos (keywordEach [] X.env))) := by rfl)
    (hst : starEach [.Starred e sp_] X.env = [(true, eval e X.env)] := by rfl) :
    PE X (.Call (.Name x p) [.Starred e sp_] [] pos) (tMakeS X.K C sp E tf te) := by
  refine ⟨fun pins s σ H Q I h => ?_⟩
  refine Call_ (thn (hc.run pins s σ H _ I h) fun u s1 ⟨y, H0, I0, ry, ey, q⟩ => ?_) ht
  subst ey
  obtain rfl : u = Value.ref C := ry
  refine PySem.W.callWith_S (h₀ := X.base) I0.ok.mod.kin M.kp (thn (he.run pins s1 σ H0 _ I0 q) fun v s2 ⟨z, H1, I1, rz, a, xs, ez, hxs, q1⟩ => ?_) hst
  subst ez
  obtain rfl : v = Value.ref a := rz
  exact StX.star_any I1 hxs fun us s3 I2 rv => ⟨I2.kIn, StX.run_makeR M F hr hx I2 rv q1⟩
end
end PW
/-! R1: exceptions of the program raised: what makes one that is tracked makes one that is raised -/
namespace PW
open PySem PySem.Spec PyProof.Rows L2
theorem pmk_exo {X : Cx} {e : Expr} {te : TE} (hx : X.ex = []) (he : PE X e te) :
    PMk X e (fun σ H Q => te σ H fun x H1 => ∃ a C d, x = .ref a ∧ H1 a = some (exo a C d) ∧ Fr0 X.H_0 a ∧ Raises X (.ref C) ∧ Q (.ref C) d (delH H1 a)) := by
  intro pins s σ H Q I h
  refine wpAny_mono (he.run pins s σ H _ I h) (fun u s1 hu => ?_) fun _ _ x => x
  obtain ⟨v, H1, I1, r1, a, C, d, rfl, ha, h0, hr, q⟩ := hu
  cases r1
  obtain ⟨t1, ho⟩ := exo_at I1.hok ha
  obtain ⟨G, gs, ga, J⟩ := I1.untrack ha h0 hx
  exact ⟨a, _, _, { s1 with heap := G }, delH H1 a, .ref C, d, rfl, J, gs, ga, ho, ⟨rfl, rfl⟩, rfl, rfl, delH_same, rfl, I1.bare, hr, q⟩
end PW
/-! R2: defs that are called in an except suite with the exception that is handled -/
namespace PW
open PySem PySem.Spec PyProof.Rows L2
open L2H (RoomH Hot1 PinOk cxH inv_startH)
/-- a def's promise where the exception p is handled; the promise may speak of p -/
structure FnP (P : Program) (w : World) (K : PySem.W.Frag) (mg : Str → Option Value) (base : Heap) (CX : CXT) (k : Nat) (f : Addr) (fd : FuncData) (ps : List Str) (sp : Addr × Obj → Sp) : Prop where
  arity : ∀ p vs H Q E, sp p vs H Q E → vs.length = ps.length
  goes : ∀ (A : Around) (outer : List Env) (s : Shared) (H : Hp) (args : Args) (us : List Value) (vs : List V) (Q : VK) (E : XK) (p : Addr × Obj), RoomH k A → PinOk outer H s p →
    Env0 P w K mg base A outer s H → BindsTo s fd args (ps.zip us) → Vals vs us → sp p vs H Q E → codeAny (model P w) A (.call (.ref f) args) (CR CX outer P w H s Q E) s
section
variable {P : Program} {w : World} {K : PySem.W.Frag} {mg : Str → Option Value} {base : Heap}
theorem okP {x qual : Str} {st : Stmt} {f : Addr} {fd : FuncData} {N ps : List Str} {k : Nat} {sp : Addr × Obj → Sp}
    (F : Fun K x qual st f fd) (S : FnScope N ps (defScope st)) (len : ∀ p vs H Q E, sp p vs H Q E → vs.length = ps.length)
    (hbody : ∀ (cdv : Value) (A : Around) (outer : List Env) (s : Shared) (H : Hp) (vs : List V) (Q : VK) (E : XK) (p : Addr × Obj),
      RoomH k (A.deeper (envOfC qual (defScope st) s.heap.objs.size f cdv)) → sp p vs H Q E →
      ∃ t, PSs (cxH CX0 P w K mg base N qual (defScope st) f cdv A outer s H E p).nox (defBody st) t ∧ t { nx := fun _ H' => Q .non H', rt := Q } (start N vs) H) :
    FnP P w K mg base CX0 (k + 1) f fd ps sp := by
  obtain ⟨oc, od, kV, doc, pm, an, cdv, ct, osl, rfl, lk, hcd⟩ := F.ex
  refine ⟨len, fun A outer s H args us vs Q E p room pin env bnd rel hsp => ?_⟩
  have hl := len _ _ _ _ _ hsp
  have kept : ∀ b o, base.get? b = some o → s.heap.get? b = some o := fun b o e => (env.bs b o e).1
  have KX : K.In s.heap := env.mod.kin.keeps kept
  have pars : ∀ y ∈ ps.zip us, (defScope st).names.lookup y.1 = some .local ∨
      ((defScope st).names.lookup y.1 = some .cell ∧
        ((cellsFrom (s.heap.objs.size + 1) (defScope st).names []).lookup y.1).isSome = true) := by
    intro y hy
    obtain ⟨n, v⟩ := y
    exact (S.par n (List.of_mem_zip hy).1).imp id fun q => ⟨q, PySem.W.cellsFrom_some _ _ _ (.inl q)⟩
  refine codeAny_call_function room.depth (KX _ _ lk) rfl S.co S.gen rfl
    (PySem.W.codeRec_of KX hcd) (bnd _ _ _ _ ?_)
  refine wpAny_newFunctionEnv_cells S.kind pars ?_
  intro env' he s1 x
  subst he
  refine ⟨(env.mod.nolimit.keeps kept).keeps x.toInCall.keep, codeAny_func ?_⟩
  obtain ⟨t, ht, hq⟩ := hbody cdv A outer s H vs Q E p (room.deeper _) hsp
  refine wpAny_mono (ht.nox.run [] s1 (start N vs) H _
    (inv_startH S pin env hl rel x) hq) ?_ (fun _ _ z => z)
  intro fl s' hs
  cases fl with
  | ret u =>
    obtain ⟨v, σ', H', J, rv, q⟩ := hs
    exact ⟨v, H', J.os, J.bare, J.base, J.hok, rv, q⟩
  | next =>
    obtain ⟨σ', H', J, q⟩ := hs
    exact ⟨V.non, H', J.os, J.bare, J.base, J.hok, rfl, q⟩
  | brk => exact hs.elim fun _ z => z.elim fun _ z => z.2.elim
  | cont => exact hs.elim fun _ z => z.elim fun _ z => z.2.elim
end
section
variable {X : Cx} {k : Nat} {f : Addr} {fd : FuncData} {ps : List Str} {sp : Addr × Obj → Sp} {E : XK} {x : Str} {q pos : Pos} {e : Expr} {es : List Expr} {t : TA} {p : Addr × Obj}
/-- f(e, ..) of such a def, in the suite where p is handled -/
theorem pe_callP (F : FnP X.prog X.w X.K X.mg X.base CX0 k f fd ps sp) (hr : RoomH k X.A) (hp : p ∈ X.pn) (hg : Gl X x) (hm : X.mg x = some (.ref f)) (hk : PySem.W.keepIn X.K (.ref f) = true) (hb : Binds X.K fd ps [])
    (ha : PA X (e :: es) t) (hdb : (x == ("__debug__" : Str)) = false := by decide) (he : starEach (e :: es) X.env = (false, eval e X.env) :: starEach es X.env := by rfl) (hpl : (backTo pos (starEach es X.env)).any (·.1) = false := by rfl) :
    PE X (.Call (.Name x q) (e :: es) [] pos) (tCall (sp p) [] E t) := by
  constructor
  intro pins s σ H Q I h
  refine wpAny_Call_Name_kw (ld_glob I hg hm ?_ hdb)
  refine PySem.W.callWith_K (h₀ := X.base) I.ok.mod.kin hk (thn (ha.run pos pins s σ H _ I h) ?_) he hpl
  rintro us s1 ⟨vs, H1, I1, r, q⟩
  refine ⟨I1.kIn, ?_⟩
  have q' : sp p vs H1 Q E := by rwa [List.append_nil] at q
  have hl : us.length = ps.length := r.length.symm.trans (F.arity _ _ _ _ _ q')
  have b := hb s1 us I1.kIn (by rw [List.append_nil]; exact hl)
  rw [List.append_nil] at b
  have P1 := I1.pin p (List.mem_append_left _ hp)
  have pin : PinOk X.stack H1 s1 p := ⟨P1.1, P1.2.1, fun hm => (List.mem_cons.mp (I1.stkSub p.1 hm)).elim P1.2.2.1 P1.2.2.2.1, P1.2.2.2.2⟩
  refine wpAny_call (codeAny_mono (F.goes X.A X.stack s1 H1 ⟨us, []⟩ us vs Q E p hr pin I1.env0 b r q') ?_)
  intro r s' hq
  match r, hq with
  | .error er, hq => exact hq.elim
  | .ok (.ret u), hq => exact I1.after hq
  | .ok .next, hq => exact False.elim hq
  | .ok .brk, hq => exact False.elim hq
  | .ok .cont, hq => exact False.elim hq
/-- p is an exception of the class at C, its attributes fs -/
def PinAt (p : Addr × Obj) (H : Hp) (C : Addr) (fs : List (Str × V)) : Prop := p.2.cls = .ref C ∧ (∃ vs, p.2.data = .fields vs) ∧ ((p.2.dict = none ∧ fs = []) ∨ ∃ d, p.2.dict = some d ∧ (H d = some (exd d fs) ∨ H d = some (.xd fs)))
theorem PinAt.ext {H H' : Hp} {C : Addr} {fs : List (Str × V)} (a : PinAt p H C fs) (e : ∀ b o, H b = some o → H' b = some o) : PinAt p H' C fs :=
  ⟨a.1, a.2.1, a.2.2.imp id fun ⟨d, h1, h2⟩ => ⟨d, h1, h2.imp (e _ _) (e _ _)⟩⟩
theorem PinAt.inst {pins : List (Addr × Obj)} {σ : L2.St} {H : Hp} {s : Shared} {C : Addr} {fs : List (Str × V)} (I : Inv X pins σ H s) (hp : p ∈ X.pn) (a : PinAt p H C fs) :
    ∃ od, PySem.W.InstAt s.heap p.1 p.2 C od ∧ ∀ f v, fs.lookup f = some v → ∃ u o, od = some o ∧ PySem.W.lookIn f o = some (some u) ∧ RelV v u := by
  obtain ⟨h1, ⟨vs, h2⟩, h3⟩ := a
  have ho := (I.pin p (List.mem_append_left _ hp)).1
  have nc : PySem.W.notCls p.2 = true := by
    unfold PySem.W.notCls
    rw [h2]
  rcases h3 with ⟨d0, rfl⟩ | ⟨d, hd, hx⟩
  · exact ⟨none, ⟨ho, h1, nc, by rw [d0]; trivial⟩, fun f v q => nomatch q⟩
  · obtain ⟨mA, hn, rel⟩ : ∃ mA, s.heap.Ns1 d mA ∧ ∀ f, RelO (fs.lookup f) (mA f) := by
      rcases hx with hx | hx
      · exact exd_at I.hok hx
      · exact (show ObjOk X.prog X.w H s.heap d (.xd fs) from I.hok d _ hx)
    obtain ⟨od, hod, hl⟩ := lookIn_ns hn
    refine ⟨some od, ⟨ho, h1, nc, by rw [hd]; exact hod⟩, fun f v q => ?_⟩
    have r := rel f
    rw [q] at r
    obtain ⟨u, hu, ru⟩ := RelO.some_of r
    exact ⟨u, od, rfl, by rw [hl, hu], ru⟩
/-- isinstance(e, D), e the exception that is handled -/
def rIsP (K : PySem.W.Frag) (p : Addr × Obj) : List V → Hp → VK → Prop := fun xs H Q => ∃ (C : Addr) (fs : List (Str × V)) (c : V) (u : Value) (b : Bool),
  xs = [.ref p.1, c] ∧ ClsV c u ∧ XC K C ∧ PinAt p H C fs ∧ PySem.W.kitOne K (.ref C) u = some b ∧ Q (.bl b) H
theorem call_isP (A : XAll X.K) (hp : p ∈ X.pn) : CallR X (.builtin "isinstance") (rIsP X.K p) := by
  rintro pins s σ H xs us Q I r ⟨C, fs, c, u, b, rfl, k, T, x, e, q⟩
  obtain ⟨u1, u2, rfl, r1, r2⟩ := vals2 r
  obtain rfl := k.eq r2
  obtain rfl : u1 = Value.ref p.1 := r1
  obtain ⟨od, J, _⟩ := x.inst I hp
  exact PySem.W.kia_one (PySem.W.kitx_exc T.cl T.ga T.gg T.ex T.ca A.gs A.tk T.mo) I.kIn J e (fun z => nomatch z)
    fun tk => ⟨.bl b, H, I.tok tk, rfl, q⟩
/-- e.f, e the exception that is handled -/
def tAttP (K : PySem.W.Frag) (p : Addr × Obj) (f : Str) (te : TE) : TE := fun σ H Q => te σ H fun x H1 => ∃ (C : Addr) (fs : List (Str × V)) (v : V),
  x = .ref p.1 ∧ XC K C ∧ PinAt p H1 C fs ∧ PySem.W.findIn K (.ref C) f = some none ∧ fs.lookup f = some v ∧ Q v H1
theorem pe_attP {te : TE} {f : Str} (he : PE X e te) (hp : p ∈ X.pn)
    (hb : attributeBase e f X.env (eval e X.env) = eval e X.env := by rfl) : PE X (.Attribute e f pos) (tAttP X.K p f te) := by
  constructor
  intro pins s σ H Q I h
  refine attr_of hb (thn (he.run pins s σ H _ I h) ?_)
  rintro u s1 ⟨x, H1, I1, rx, C, fs, v, rfl, T, at_, no, l, q⟩
  obtain rfl : u = Value.ref p.1 := rx
  obtain ⟨od, J, look⟩ := at_.inst I1 hp
  obtain ⟨u, o, rfl, hu, ru⟩ := look f v l
  exact HandSPX.exc_get I1.kIn J T.ga T.gg T.ex (PySem.W.findObj_own T.hd no rfl hu) (handed_of ru) ⟨v, H1, I1.tok _, ru, q⟩
end
end PW
/-! R3: the same where what is raised has no context (so that a suite may raise in turn) -/
namespace PW
open PySem PySem.Spec PyProof.Rows L2
theorem pmkN_exo {X : Cx} {e : Expr} {te : TE} (hx : X.ex = []) (he : PE X e te) :
    L2N.PMk X e (fun σ H Q => te σ H fun x H1 => ∃ a C d, x = .ref a ∧ H1 a = some (exo a C d) ∧ Fr0 X.H_0 a ∧ Raises X (.ref C) ∧ Q (.ref C) d (delH H1 a)) := by
  intro pins s σ H Q I h
  refine wpAny_mono (he.run pins s σ H _ I h) (fun u s1 hu => ?_) fun _ _ x => x
  obtain ⟨v, H1, I1, r1, a, C, d, rfl, ha, h0, hr, q⟩ := hu
  cases r1
  obtain ⟨t1, ho⟩ := exo_at I1.hok ha
  obtain ⟨G, gs, ga, J⟩ := I1.untrack ha h0 hx
  exact ⟨a, _, _, { s1 with heap := G }, delH H1 a, .ref C, d, rfl, J, gs, ga, ho, ⟨rfl, rfl, fun vs e => by cases e; rfl⟩, rfl, rfl, delH_same, rfl, I1.bare, hr, q⟩
theorem cxUpN {P : Program} {w : World} : StX.CXUp (L2N.CX P w) := by
  rintro outer s H s2 H2 E e s' un kp ho ⟨a, B, H', cls, d, ea, fl, hok, ub, na, os, ag, he⟩
  have up : ∀ b o, s.heap.get? b = some o → H b = none → H2 b = none := fun b o q n => un.free b o q n (by simp)
  exact ⟨a, B, H', cls, d, ea, fl, hok,
    { keep := fun b o q n hb => ub.keep b o (kp b o q) (up b o q n) hb
      slot := fun b o q hb => ub.slot b o (kp b o q) hb
      free := fun b o q n => ub.free b o (kp b o q) (up b o q n)
      there := fun b o q hb => ub.there b o (kp b o q) hb
      tups := fun b xs q => ub.tups b xs (un.tups b xs q)
      frzs := fun b o xs q => ub.frzs b o xs (un.frzs b o xs q)
      tbls := fun b ps q => by
        obtain ⟨m1, e1⟩ := un.tbls b ps q
        obtain ⟨m2, e2⟩ := ub.tbls b _ e1
        exact ⟨m1 ++ m2, e2.trans (congrArg (fun z => some (HO.tbl z)) (Array.append_assoc ..))⟩ }, na, os.trans ho, ag, he⟩
end PW
/-! R4: None among own instances: in, index; a promise that raises nothing -/
namespace PW
open PySem PySem.Spec PyProof.Rows L2 Evl
theorem noneOr_ext {K : PySem.W.Frag} {H H' : Hp} {z : V} (h : NoneOr K H z) (e : Ex H H') : NoneOr K H' z := by
  rcases h with h | ⟨a, C, dx, fs, h1, h2, h3, h4⟩
  · exact .inl h
  · exact .inr ⟨a, C, dx, fs, h1, e _ _ h2, h3, h4⟩
section
variable {X : Cx}
def rIndexN (K : PySem.W.Frag) : V → List V → Hp → VK → Prop := fun x xs H Q => ∃ (a : Addr) (ys : List V) (j : Nat), x = V.ref a ∧ xs = [.non] ∧ SqL K H a ys ∧ (∀ z ∈ ys, NoneOr K H z) ∧ ys[j]? = some .non ∧
  (∀ (m : Nat) (z' : V), m < j → ys[m]? = some z' → isNon z' = false) ∧ Q (.int (j : Nat)) H
theorem mt_indexN (hu : X.A.units + 64 < cLine) : MtR X "list.index" (rIndexN X.K) := by
  intro pins s σ H x xs v us Q I rx rxs h
  obtain ⟨a, ys, j, rfl, rfl, hs, fys, hz, hno, q⟩ := h
  cases rx
  cases rxs with
  | cons ry rt =>
    rename_i uy ut
    cases rt
    cases ry
    obtain ⟨its, rv, ⟨⟨cls, dd, data, sl⟩, n, ho, hc, hdn, hd⟩, hlen⟩ := I.list hs
    simp only at hc hd
    subst hc hd
    obtain ⟨u, hu2, ru⟩ := rv.get hz
    cases ru
    obtain ⟨hjl, hje⟩ := List.getElem?_eq_some_iff.mp hu2
    have hvl := rv.length
    have hj : j < its.toArray.size := by simpa using hjl
    have hsl := sizeLine_eq
    refine call_meets PySem.F.slot_list_index ⟨_, ho, rfl⟩ PySem.F.entry_list_index (PySem.F.args_list_index_2 _ _)
      (SeqAt.list_indexAt a its.toArray n dd sl .none PySem.Numpy.isNone j hj (by omega) ?_ ?_) ⟨ho, fun u' hu' => mem_non I ?_ rv fys u' (by simpa using hu'), ?_⟩
    · have e1 : its.toArray[j] = Value.none := by simpa using hje
      rw [e1]
      rfl
    · intro m hm hmj
      have hml : m < its.length := by simpa using hm
      have hmy : m < ys.length := by omega
      have hy' : ys[m]? = some ys[m] := List.getElem?_eq_getElem hmy
      obtain ⟨u2, hu3, ru2⟩ := rv.get hy'
      obtain ⟨_, hme⟩ := List.getElem?_eq_some_iff.mp hu3
      have e1 : its.toArray[m] = u2 := by simpa using hme
      rw [e1, isNone_of ru2 (fys _ (List.mem_of_getElem? hy'))]
      exact hno m _ hmj hy'
    · show X.A.units + _ < cLine
      omega
    · exact ⟨.int (j : Nat), H, I.tok _, ⟨_, rfl⟩, q⟩
end
section
variable {K : PySem.W.Frag} {σ : L2.St} {H : Hp} {ta tb : TE} {xs : List V}
theorem ev_noneIn {p : Addr} (ha : Ev ta σ H .non) (hb : Ev tb σ H (.ref p)) (hp : SqL K H p xs) (hn : ∀ z ∈ xs, NoneOr K H z) : Ev (tOp (rNoneIn K false) ta tb) σ H (.bl (xs.any isNon)) :=
  ev_op ha hb fun H1 e1 Q q => ⟨p, xs, rfl, rfl, ex_l e1 hp, fun z hz => noneOr_ext (hn z hz) e1, q H1 (Ex.refl H1)⟩
theorem ev_indexN {l : Addr} {j : Nat} (ha : Ev ta σ H (.ref l)) (hl : SqL K H l xs) (hb : Ev tb σ H .non) (hn : ∀ z ∈ xs, NoneOr K H z) (hz : xs[j]? = some .non)
    (hno : ∀ (m : Nat) (z' : V), m < j → xs[m]? = some z' → isNon z' = false) :
    Ev (tBM K "list" (rIndexN K) ta (tCons tb tNil)) σ H (.int (j : Nat)) := fun H1 e Q q =>
  ha H1 e _ fun H2 e2 => ⟨.inl ⟨rfl, _, ex_l (e.trans e2) hl⟩, hb H2 (e.trans e2) _ fun H3 e3 =>
    ⟨l, xs, j, rfl, rfl, ex_l ((e.trans e2).trans e3) hl, fun z hz => noneOr_ext (hn z hz) ((e.trans e2).trans e3), hz, hno, q H3 (e2.trans e3)⟩⟩
end
section
variable {P : Program} {w : World} {K : PySem.W.Frag} {mg : Str → Option Value} {base : Heap} {k : Nat} {f : Addr} {sp sp0 : Sp}
/-- what raises only as E says raises nothing where E is false -/
theorem crN0 {outer : List Env} {H : Hp} {s : Shared} {Q : VK} {E : XK} {r : Result} {s' : Shared} (h : CR (L2N.CX P w) outer P w H s Q E0 r s') : CR CX0 outer P w H s Q E r s' := by
  match r, h with
  | .error e, ⟨_, _, _, _, _, _, _, _, _, _, _, _, z⟩ => exact z.elim
  | .ok (.ret u), h => exact h
  | .ok .next, h => exact h
  | .ok .brk, h => exact h
  | .ok .cont, h => exact h
theorem crX0 {outer : List Env} {H : Hp} {s : Shared} {Q : VK} {E : XK} {r : Result} {s' : Shared} (h : CR (L2.CX P w) outer P w H s Q E0 r s') : CR CX0 outer P w H s Q E r s' := by
  match r, h with
  | .error e, ⟨_, _, _, _, _, _, _, _, _, _, _, _, z⟩ => exact z.elim
  | .ok (.ret u), h => exact h
  | .ok .next, h => exact h
  | .ok .brk, h => exact h
  | .ok .cont, h => exact h
theorem noN_R (F : FnR P w K mg base (L2N.CX P w) k f sp) (i : ∀ vs H Q E, sp0 vs H Q E → sp vs H Q E0) : FnR P w K mg base CX0 k f sp0 := fun A outer s H us vs Q E hr e0 r h =>
  codeAny_mono (F A outer s H us vs Q E0 hr e0 r (i _ _ _ _ h)) fun _ _ z => crN0 z
theorem noX_Ok {fd : FuncData} {ps : List Str} (F : FnOk P w K mg base (L2.CX P w) k f fd ps sp) (i : ∀ vs H Q E, sp0 vs H Q E → sp vs H Q E0) : FnOk P w K mg base CX0 k f fd ps sp0 :=
  ⟨fun vs H Q E h => F.len vs H Q E0 (i _ _ _ _ h), fun A outer s H args us vs Q E hr e0 hb r h => codeAny_mono (F.run A outer s H args us vs Q E0 hr e0 hb r (i _ _ _ _ h)) fun _ _ z => crX0 z⟩
end
end PW
namespace PW
open PySem PySem.Spec PyProof.Rows L2 Evl
/-- a statement of the top -/
def top (i : Nat) : Stmt := PySem.Challenge.pw_pileworn_k02_rules_made.main.body.getD i (.Pass ⟨0, 0, 0, 0⟩)
/-- the built-in names that nothing of the text shadows -/
structure Blt (mg : Str → Option Value) : Prop where
  len : mg "len" = none
  int : mg "int" = none
  abs : mg "abs" = none
  divmod : mg "divmod" = none
  repr : mg "repr" = none
  isi : mg "isinstance" = none
  all : mg "all" = none
  range : mg "range" = none
  max : mg "max" = none
  min : mg "min" = none
  str : mg "str" = none
  bool : mg "bool" = none
  any : mg "any" = none
  tuple : mg "tuple" = none
theorem bIsi : bootBuiltins "isinstance" = some (.builtin "isinstance") := by decide +kernel
theorem bStr : bootBuiltins "str" = some (.type "str") := by decide +kernel
/-- the limits that the rules speak of -/
structure Lim (mg : Str → Option Value) : Prop where
  plates : ∃ t, mg "MOST_PLATES" = some (.int 10 t)
  away : ∃ t, mg "MOST_AWAY" = some (.int 2 t)
  days : ∃ t, mg "MOST_DAYS" = some (.int 6 t)
  taken : ∃ t, mg "MOST_TAKEN" = some (.int 6 t)
  under : ∃ t, mg "MOST_UNDER" = some (.int 9 t)
/-! ### the words of rows -/
def txt (n : Int) : Str := Str.ofString (toString n)
def readFrom (w : Str) (lo : Int) : Nat → Option Int
  | 0 => none
  | n + 1 => if w = txt lo then some lo else readFrom w (lo + 1) n
def readNum (w : Str) (lo hi : Int) : Option Int := readFrom w lo (hi + 1 - lo).toNat
def optV : Option Int → V
  | none => .non
  | some n => .int n
def spNum : Sp := fun vs H Q _ => ∃ (x : Str) (lo hi : Int), vs = [.str x, .int lo, .int hi] ∧ 0 ≤ lo ∧ lo ≤ 100 ∧ -100 ≤ hi ∧ hi ≤ 100 ∧ ∀ H', Ex H H' → Q (optV (readNum x lo hi)) H'
abbrev sNum : Stmt := top 7
theorem scNum : FnScope ["word", "least", "most", "number"] ["word", "least", "most"] (defScope sNum) := ⟨rfl, rfl, rfl, by decide +kernel, rfl, by decide +kernel, by decide +kernel⟩
section
variable {P : Program} {w : World} {K : PySem.W.Frag} {mg : Str → Option Value} {base : Heap}
theorem ok_num {f : Addr} {fd : FuncData} {j : Nat} (F : Fun K "read_number" "read_number" sNum f fd) (B : Blt mg) :
    FnOk P w K mg base CX0 (j + 1) f fd ["word", "least", "most"] spNum := by
  refine F.ok scNum (fun vs H Q E h => ?_) (fun cdv A outer s H vs Q E hr h => ?_)
  · obtain ⟨x, lo, hi, rfl, _⟩ := h
    rfl
  · obtain ⟨x, lo, hi, rfl, l0, l1, h0, h1, k⟩ := h
    refine ⟨_, pss_cons (ps_for PassesOwn.never rfl (pi_range2 rfl B.range (pa_cons (pv 1) (pa_cons (pe_op op_add (pv 2) pe_int) pa_nil))) (pg_name (i := 3) scNum.nd rfl (Or.inl rfl))
        (pss_one (ps_if (pt_cmpR op_eq (pv 0) (pe_callTy call_str_int (by rfl) B.str bStr (pa_cons (pv 3) pa_nil)) (nomark _)) (pss_one (ps_ret (pv 3))) pss_nil)))
      (pss_one (ps_ret pe_non)), ?_⟩
    refine q_forR2 (lo := lo) (n := hi + 1) (ea_cons (ev_var rfl) (ea_cons (ev_op (ev_var rfl) ev_c rv_I0) ea_nil)) ⟨by omega, by omega, by omega, by omega⟩
      (fun i σ' H' => ∃ y : Option V, σ' = [some (.str x), some (.int lo), some (.int hi), y] ∧ Ex H H' ∧ readNum x lo hi = readFrom x (lo + i) ((hi + 1 - lo).toNat - i))
      (fun H1 e1 => ⟨none, rfl, e1, by simp [readNum]⟩) ?_ ?_
    · rintro i σ' H' hi' ⟨y, rfl, ex, inv⟩
      obtain ⟨m, hm⟩ : ∃ m, (hi + 1 - lo).toNat - i = m + 1 := ⟨(hi + 1 - lo).toNat - i - 1, by omega⟩
      rw [hm] at inv
      have small : (lo + (i : Int)).natAbs.log2 < 1920 := by
        have a : (lo + (i : Int)).natAbs < 2 ^ 64 := by omega
        have b := Nat.log2_lt (n := (lo + (i : Int)).natAbs) (k := 64)
        by_cases z : (lo + (i : Int)).natAbs = 0
        · rw [z]
          decide
        · exact Nat.lt_trans ((b z).mpr a) (by decide)
      refine s_when (et_test (ev_op (ev_var rfl) (ev_cb (ea_cons (ev_var rfl) ea_nil) fun H1 e1 Q1 q1 => ⟨lo + (i : Int), rfl, small, q1 H1 (Ex.refl H1)⟩) (rv_eq rfl))) (fun z H1 e1 => ?_) (fun z H1 e1 => ?_)
      · have z' : x = txt (lo + (i : Int)) := by simpa [txt] using z
        refine s_ret (ev_var rfl) fun H2 e2 => ?_
        have q := k H2 ((ex.trans e1).trans e2)
        rw [inv, readFrom, if_pos z'] at q
        exact q
      · have z' : ¬ x = txt (lo + (i : Int)) := by simpa [txt] using z
        refine ⟨_, rfl, ex.trans e1, ?_⟩
        rw [inv, readFrom, if_neg z']
        have e3 : lo + (i : Int) + 1 = lo + ((i + 1 : Nat) : Int) := by omega
        have e4 : (hi + 1 - lo).toNat - (i + 1) = m := by omega
        rw [e3, e4]
    · rintro σ' H' ⟨y, rfl, ex, inv⟩
      refine s_ret ev_c fun H2 e2 => ?_
      have q := k H2 (ex.trans e2)
      rw [inv, Nat.sub_self] at q
      exact q
end
end PW
namespace PW
open PySem PySem.Spec PyProof.Rows L2 Evl
/-! ### rows of days -/
theorem readFrom_le {x : Str} : ∀ {n : Nat} {lo k : Int}, readFrom x lo n = some k → lo ≤ k ∧ k < lo + n
  | 0, _, _, h => by cases h
  | n + 1, lo, k, h => by
    rw [readFrom] at h
    by_cases z : x = txt lo
    · rw [if_pos z] at h
      cases h
      omega
    · rw [if_neg z] at h
      have := readFrom_le h
      omega
theorem readNum_le {x : Str} {lo hi k : Int} (h : readNum x lo hi = some k) : lo ≤ k ∧ k ≤ hi := by
  have := readFrom_le h
  omega
def cutW (ws : List Str) (lo hi : Option Int) : List Str := (ws.drop (HT.sIx ws.length 0 lo)).take (HT.sIx ws.length ws.length hi - HT.sIx ws.length 0 lo)
theorem cutV_strs (ws : List Str) (lo hi : Option Int) : cutV (ws.map V.str) lo hi = (cutW ws lo hi).map V.str := by simp [cutV, cutW]
theorem cutW_le (ws : List Str) (lo hi : Option Int) : (cutW ws lo hi).length ≤ ws.length := by
  unfold cutW
  rw [List.length_take, List.length_drop]
  omega
theorem word_at {ws : List Str} {i : Nat} (h : i < ws.length) : atI (ws.map V.str) (i : Int) = some (.str (ws.getD i "")) :=
  atI_nat (by simp [List.getElem?_eq_getElem h])
theorem word_last {ws : List Str} (h : 0 < ws.length) : atI (ws.map V.str) (-1) = some (.str (ws.getD (ws.length - 1) "")) := by
  obtain ⟨l, x, rfl⟩ : ∃ l x, ws = l ++ [x] := ⟨ws.dropLast, ws.getLast (by intro z; rw [z] at h; simp at h), (List.dropLast_concat_getLast _).symm⟩
  rw [List.map_append]
  have : (l ++ [x]).getD ((l ++ [x]).length - 1) "" = x := by simp
  rw [this]
  exact atI_last _ _
theorem dp_strs {K : PySem.W.Frag} {H : Hp} : ∀ ws : List Str, DpAll K H (ws.map V.str) (ws.map PyData.str)
  | [] => .nil
  | x :: ws => .cons (.str x) (dp_strs ws)
def strsD (ws : List Str) : PyData := .list (ws.map PyData.str)
def OkW (ws : List Str) : Prop := ∀ x ∈ ws, PyData.strOk x = true
theorem strs_lay : ∀ {ws : List Str}, OkW ws → PyData.canLayAll0 (ws.map PyData.str) = true ∧ PyData.depthAll (ws.map PyData.str) = 0
  | [], _ => ⟨rfl, rfl⟩
  | x :: ws, h => by
    have r := strs_lay (ws := ws) fun y hy => h y (List.mem_cons_of_mem _ hy)
    have a := h x List.mem_cons_self
    constructor
    · show (PyData.strOk x && PyData.canLayAll0 (ws.map PyData.str)) = true
      rw [a, r.1]
      rfl
    · show max 0 (PyData.depthAll (ws.map PyData.str)) = 0
      rw [r.2]
      rfl
theorem strs_shaped {ws : List Str} (h : OkW ws) : SeqAt.shaped (strsD ws) = true := by
  have r := strs_lay h
  show (PyData.canLayAll0 (ws.map PyData.str) && decide (PyData.depthAll (ws.map PyData.str) + 1 ≤ 64)) = true
  rw [r.1, r.2]
  rfl
theorem OkW.cut {ws : List Str} (h : OkW ws) (lo hi : Option Int) : OkW (cutW ws lo hi) := fun x hx => h x (List.mem_of_mem_drop (List.mem_of_mem_take hx))
structure DayD where
  word : Str
  least : Int
  most : Int
  depth : Int
  turned : Bool
def dayF (d : DayD) : List (Str × V) := [("word", .str d.word), ("least", .int d.least), ("most", .int d.most), ("depth", .int d.depth), ("turned", .bl d.turned)]
/-- at p a day that tells this -/
def DayAt (CD : Addr) (H : Hp) (p : Addr) (d : DayD) : Prop := ∃ dx, H p = some (.ins CD dx (dayF d))
def DayV (CD : Addr) (H : Hp) : Option DayD → V → Prop
  | none, v => v = .non
  | some d, v => ∃ p, v = .ref p ∧ DayAt CD H p d
theorem DayV.keep {CD : Addr} {H H' : Hp} {v : V} : ∀ {o : Option DayD}, DayV CD H o v → (∀ p dx d, H p = some (.ins CD dx (dayF d)) → H' p = some (.ins CD dx (dayF d))) → DayV CD H' o v
  | none, h, _ => h
  | some _, ⟨p, e, dx, h⟩, k => ⟨p, e, dx, k _ _ _ h⟩
theorem DayV.ext {CD : Addr} {H H' : Hp} {v : V} {o : Option DayD} (h : DayV CD H o v) (e : Ex H H') : DayV CD H' o v := h.keep fun _ _ _ q => e _ _ q
def depthOf (ws : List Str) : Option Int := if PyData.eqv (strsD ws) (strsD ["top"]) then some 0 else if PyData.eqv (strsD ws) (strsD ["bottom"]) then some 10
  else if decide (ws.length = 2) && decide (V.str (ws.getD 0 "") = V.str "under") then readNum (ws.getD 1 "") 1 9 else none
def cutOf (ws : List Str) : Option DayD := if ws.length = 2 then (readNum (ws.getD 1 "") 1 9).map fun d => ⟨"cut", 0, 0, d, false⟩ else none
def takeTail (ws : List Str) (l : Int) : Option DayD := match readNum (ws.getD 3 "") l 6, depthOf (cutW ws (some 5) (some (-1))) with
  | some m, some e => if inV (.str (ws.getD (ws.length - 1) "")) [.str "kept", .str "turned"] then some ⟨"take", l, m, e, decide (V.str (ws.getD (ws.length - 1) "") = V.str "turned")⟩ else none
  | _, _ => none
def takeOf (ws : List Str) : Option DayD := if decide ((ws.length : Int) < 7) || (!decide (V.str (ws.getD 0 "") = V.str "take") || (!decide (V.str (ws.getD 2 "") = V.str "to") || !decide (V.str (ws.getD 4 "") = V.str "back"))) then none
  else (readNum (ws.getD 1 "") 0 6).bind (takeTail ws)
def dayOf (s : Str) : Option DayD := if inV (.str s) [.str "turn", .str "rest"] then some ⟨s, 0, 0, 0, false⟩
  else if V.str ((Txt.split s " ").getD 0 "") = V.str "cut" then cutOf (Txt.split s " ") else takeOf (Txt.split s " ")
def isDay (s : Str) : Bool := (dayOf s).isSome
def firstOf (s : Str) : Option (Int × Int) := if (!decide (V.int ((Txt.split s " ").length : Int) = V.int 4)) || (!decide (V.str ((Txt.split s " ").getD 0 "") = V.str "plates") || !decide (V.str ((Txt.split s " ").getD 2 "") = V.str "away")) then none
  else match readNum ((Txt.split s " ").getD 1 "") 2 10, readNum ((Txt.split s " ").getD 3 "") 0 2 with
    | some p, some q => some (p, q)
    | _, _ => none
theorem rows_good : (["take 0 to 6 back under 9 turned", "take 6 to 6 back top kept", "cut 9", "turn", "rest", "cut 1"] : List Str).all isDay = true ∧ firstOf "plates 10 away 2" = some (10, 2) := by decide +kernel
section
variable {K : PySem.W.Frag} {σ : L2.St} {H : Hp} {te tb : TE}
theorem el_split {a b : Str} (ha : Ev te σ H (.str a)) (hb : Ev tb σ H (.str b)) (hz : a.length ≤ 1000) (h : (b.length == 0) = false) :
    EvL (tM1 (fun x xs H Q => ∃ a b, x = .str a ∧ xs = [.str b] ∧ (b.length == 0) = false ∧ a.length + 2 ≤ sizeLine ∧ rNewStrs (Txt.split a b) H Q) te tb) σ H ((Txt.split a b).map V.str) := fun H1 e Q q =>
  ha H1 e _ fun H2 e2 => ⟨⟨a, rfl⟩, hb H2 (e.trans e2) _ fun H3 e3 => ⟨a, b, rfl, rfl, h, Nat.le_trans (show a.length + 2 ≤ 1002 by omega) (by decide), fun p hp =>
    q p _ (fresh_back (e2.trans e3) hp) ((e2.trans e3).trans (Ex.new hp)) upd_same⟩⟩
theorem ev_isi {x c : V} {u t : Value} {b : Bool} (ha : Ev te σ H x) (hb : Ev tb σ H c) (k : ClsV c u) (ty : ∀ H1, Ex H H1 → TyX K H1 x t) (e : PySem.W.kitOne K t u = some b) :
    Ev (tCB (rIsi K) (tCons te (tCons tb tNil))) σ H (.bl b) := ev_cb (ea_cons ha (ea_cons hb ea_nil)) fun H1 ex Q q => ⟨x, c, t, u, b, rfl, k, ty H1 ex, e, q H1 (Ex.refl H1)⟩
theorem ev_isN {x : V} (ha : Ev te σ H x) : Ev (tOp (fun x y H Q => y = .non ∧ Q (.bl (decide (x = .non))) H) te (tC .non)) σ H (.bl (decide (x = .non))) :=
  ev_op ha ev_c fun H1 _ Q q => ⟨rfl, q H1 (Ex.refl H1)⟩
theorem ev_notN {x : V} (ha : Ev te σ H x) : Ev (tOp (fun x y H Q => y = .non ∧ Q (.bl (!decide (x = .non))) H) te (tC .non)) σ H (.bl (!decide (x = .non))) :=
  ev_op ha ev_c fun H1 _ Q q => ⟨rfl, q H1 (Ex.refl H1)⟩
theorem kit_str : PySem.W.kitOne K (.type "str") (.type "str") = some true := by
  unfold PySem.W.kitOne
  rw [if_pos (by decide)]
end
/-- a value that is no text -/
def NoStr (K : PySem.W.Frag) (H : Hp) (v : V) : Prop := ∃ t, (∀ H1, Ex H H1 → TyX K H1 v t) ∧ PySem.W.kitOne K t (.type "str") = some false
def spDayI (CD : Addr) : Sp := fun vs H Q _ => ∃ (x dx : Addr) (d : DayD), vs = [.ref x, .str d.word, .int d.least, .int d.most, .int d.depth, .bl d.turned] ∧ H x = some (.ins CD dx []) ∧ Q .non (upd H x (.ins CD dx (dayF d)))
def spDepth (K : PySem.W.Frag) : Sp := fun vs H Q _ => ∃ (p : Addr) (ws : List Str), vs = [.ref p] ∧ SqL K H p (ws.map V.str) ∧ ws.length ≤ 1000 ∧ OkW ws ∧ ∀ H', Ex H H' → Q (optV (depthOf ws)) H'
def spCut (K : PySem.W.Frag) (CD : Addr) : Sp := fun vs H Q _ => ∃ (p : Addr) (ws : List Str), vs = [.ref p] ∧ SqL K H p (ws.map V.str) ∧ ws.length ≤ 1000 ∧ OkW ws ∧ ∀ u H', Ex H H' → DayV CD H' (cutOf ws) u → Q u H'
def spTake (K : PySem.W.Frag) (CD : Addr) : Sp := fun vs H Q _ => ∃ (p : Addr) (ws : List Str), vs = [.ref p] ∧ SqL K H p (ws.map V.str) ∧ ws.length ≤ 1000 ∧ OkW ws ∧ ∀ u H', Ex H H' → DayV CD H' (takeOf ws) u → Q u H'
def spDay (K : PySem.W.Frag) (CD : Addr) : Sp := fun vs H Q _ => ∃ v : V, vs = [v] ∧ ((∃ s : Str, v = .str s ∧ s.length ≤ 1000 ∧ (Txt.split s " ").length ≤ 1000 ∧ OkW (Txt.split s " ") ∧ ∀ u H', Ex H H' → DayV CD H' (dayOf s) u → Q u H') ∨
  (NoStr K H v ∧ ∀ H', Ex H H' → Q .non H'))
def spFirst (K : PySem.W.Frag) : Sp := fun vs H Q _ => ∃ v : V, vs = [v] ∧ ((∃ s : Str, v = .str s ∧ s.length ≤ 1000 ∧ (Txt.split s " ").length ≤ 1000 ∧ OkW (Txt.split s " ") ∧
    match firstOf s with
    | none => ∀ H', Ex H H' → Q .non H'
    | some (p, q) => ∀ t H', H t = none → Ex H H' → H' t = some (.tup [.int p, .int q]) → Q (.ref t) H') ∨
  (NoStr K H v ∧ ∀ H', Ex H H' → Q .non H'))
abbrev sDayI : Stmt := inClass (top 9) 0
abbrev sDepth : Stmt := top 13
abbrev sCut : Stmt := top 11
abbrev sTake : Stmt := top 12
abbrev sDay : Stmt := top 10
abbrev sFirst : Stmt := top 19
theorem scDayI : FnScope ["self", "word", "least", "most", "depth", "turned"] ["self", "word", "least", "most", "depth", "turned"] (defScope sDayI) := ⟨rfl, rfl, rfl, by decide +kernel, rfl, by decide +kernel, by decide +kernel⟩
theorem scDepth : FnScope ["words"] ["words"] (defScope sDepth) := ⟨rfl, rfl, rfl, by decide +kernel, rfl, by decide +kernel, by decide +kernel⟩
theorem scCut : FnScope ["words", "depth"] ["words"] (defScope sCut) := ⟨rfl, rfl, rfl, by decide +kernel, rfl, by decide +kernel, by decide +kernel⟩
theorem scTake : FnScope ["words", "least", "most", "depth"] ["words"] (defScope sTake) := ⟨rfl, rfl, rfl, by decide +kernel, rfl, by decide +kernel, by decide +kernel⟩
theorem scDay : FnScope ["row", "words"] ["row"] (defScope sDay) := ⟨rfl, rfl, rfl, by decide +kernel, rfl, by decide +kernel, by decide +kernel⟩
theorem scFirst : FnScope ["row", "words", "plates", "away"] ["row"] (defScope sFirst) := ⟨rfl, rfl, rfl, by decide +kernel, rfl, by decide +kernel, by decide +kernel⟩
theorem optV_none {o : Option Int} : (optV o = V.non) ↔ o = none := by
  cases o with
  | none => simp [optV]
  | some n => simp [optV]
section
variable {P : Program} {w : World} {K : PySem.W.Frag} {mg : Str → Option Value} {base : Heap}
structure Num (K : PySem.W.Frag) (mg : Str → Option Value) (f : Addr) (fd : FuncData) : Prop where
  F : Fun K "read_number" "read_number" sNum f fd
  b : Binds K fd ["word", "least", "most"] []
  m : mg "read_number" = some (.ref f)
theorem num_ev {te tl th : TE} {σ : L2.St} {H : Hp} {x : Str} {lo hi : Int} {E : XK} (ha : Ev te σ H (.str x)) (hb : Ev tl σ H (.int lo)) (hc : Ev th σ H (.int hi)) (h : 0 ≤ lo ∧ lo ≤ 100 ∧ -100 ≤ hi ∧ hi ≤ 100) :
    Ev (tCall spNum [] E (tCons te (tCons tl (tCons th tNil)))) σ H (optV (readNum x lo hi)) :=
  ev_call (ea_cons ha (ea_cons hb (ea_cons hc ea_nil))) fun H1 _ Q q _ => ⟨x, lo, hi, rfl, h.1, h.2.1, h.2.2.1, h.2.2.2, fun H2 e2 => q H2 e2⟩
/-- the class Day -/
structure Dy (K : PySem.W.Frag) (mg : Str → Option Value) (CD fI : Addr) (dI : FuncData) : Prop where
  F : Fun K "__init__" "Day.__init__" sDayI fI dI
  b : Binds K dI ["self", "word", "least", "most", "depth", "turned"] []
  M : Mk K CD fI
  m : mg "Day" = some (.ref CD)
  cl : Cls K CD
  n0 : NoAttr K CD "word"
  n1 : NoAttr K CD "least"
  n2 : NoAttr K CD "most"
  n3 : NoAttr K CD "depth"
  n4 : NoAttr K CD "turned"
theorem putN {f g : Str} {u v : V} {r : List (Str × V)} (h : decide (g = f) = false) : putF f v ((g, u) :: r) = (g, u) :: putF f v r := by
  rw [putF, if_neg (of_decide_eq_false h)]
theorem ok_dayI {CD fI : Addr} {dI : FuncData} {j : Nat} (D : Dy K mg CD fI dI) : FnOk P w K mg base CX0 (j + 1) fI dI ["self", "word", "least", "most", "depth", "turned"] (spDayI CD) := by
  refine D.F.ok scDayI (fun vs H Q E h => ?_) (fun cdv A outer s H vs Q E hr h => ?_)
  · obtain ⟨x, dx, d, rfl, _⟩ := h
    rfl
  · obtain ⟨x, dx, d, rfl, hx, k⟩ := h
    refine ⟨_, (pss_cons (ps_fld (pv 0) (pv 1) rfl)
      (pss_cons (ps_fld (pv 0) (pv 2) rfl)
      (pss_cons (ps_fld (pv 0) (pv 3) rfl)
      (pss_cons (ps_fld (pv 0) (pv 4) rfl)
      (pss_one (ps_fld (pv 0) (pv 5) rfl)))))), ?_⟩
    refine ⟨.str d.word, rfl, .ref x, rfl, x, CD, dx, [], rfl, hx, D.cl, D.n0, by decide, ?_⟩
    rw [show putF "word" (V.str d.word) [] = ([("word", V.str d.word)] : List (Str × V)) from rfl]
    refine ⟨.int d.least, rfl, .ref x, rfl, x, CD, dx, _, rfl, upd_same, D.cl, D.n1, (by show 1 < 1000; decide), ?_⟩
    rw [putN (by decide +kernel), show ∀ v, putF "least" v [] = ([("least", v)] : List (Str × V)) from fun v => rfl, upd_upd]
    refine ⟨.int d.most, rfl, .ref x, rfl, x, CD, dx, _, rfl, upd_same, D.cl, D.n2, (by show 2 < 1000; decide), ?_⟩
    rw [putN (by decide +kernel), putN (by decide +kernel), show ∀ v, putF "most" v [] = ([("most", v)] : List (Str × V)) from fun v => rfl, upd_upd]
    refine ⟨.int d.depth, rfl, .ref x, rfl, x, CD, dx, _, rfl, upd_same, D.cl, D.n3, (by show 3 < 1000; decide), ?_⟩
    rw [putN (by decide +kernel), putN (by decide +kernel), putN (by decide +kernel), show ∀ v, putF "depth" v [] = ([("depth", v)] : List (Str × V)) from fun v => rfl, upd_upd]
    refine ⟨.bl d.turned, rfl, .ref x, rfl, x, CD, dx, _, rfl, upd_same, D.cl, D.n4, (by show 4 < 1000; decide), ?_⟩
    rw [putN (by decide +kernel), putN (by decide +kernel), putN (by decide +kernel), putN (by decide +kernel), show ∀ v, putF "turned" v [] = ([("turned", v)] : List (Str × V)) from fun v => rfl, upd_upd]
    exact k
/-- Day(..): a new day -/
theorem er_day {CD : Addr} {ta : TA} {σ : L2.St} {H : Hp} {d : DayD} {E : XK} (h : EvA ta σ H [.str d.word, .int d.least, .int d.most, .int d.depth, .bl d.turned]) : EvR (tMake CD (spDayI CD) [] E ta) σ H (fun H v => DayV CD H (some d) v) := fun H1 e1 Q q =>
  h H1 e1 _ fun H2 e2 x dx nx ndx ne => ⟨x, dx, d, rfl, upd_same, rfl, q _ _ (fun b o e => by
    have q2 := e2 _ _ e
    rw [upd_upd, upd_ne (ne_of_none q2 nx), upd_ne (ne_of_none q2 ndx)]
    exact q2) ⟨x, rfl, dx, upd_same⟩⟩
theorem s_retR {D : Ends} {σ : L2.St} {H : Hp} {te : TE} {R : Hp → V → Prop} (h : EvR te σ H R) (k : ∀ v H1, Ex H H1 → R H1 v → D.rt v H1) : tRet te D σ H := h H (Ex.refl H) _ fun v H1 e r => k v H1 e r
theorem ok_depth {f fn : Addr} {fd fnd : FuncData} {j : Nat} (F : Fun K "read_depth" "read_depth" sDepth f fd) (B : Blt mg) (L : Lim mg) (N : Num K mg fn fnd) :
    FnOk P w K mg base CX0 (j + 2) f fd ["words"] (spDepth K) := by
  have GN : FnOk P w K mg base CX0 (j + 1) fn fnd ["word", "least", "most"] spNum := ok_num N.F B
  obtain ⟨tU, mU⟩ := L.under
  obtain ⟨tP, mP⟩ := L.plates
  refine F.ok scDepth (fun vs H Q E h => ?_) (fun cdv A outer s H vs Q E hr h => ?_)
  · obtain ⟨p, ws, rfl, _⟩ := h
    rfl
  · obtain ⟨p, ws, rfl, hS, hz, ok, k⟩ := h
    have hu : A.units + 3 + 64 < cLine := hr.units
    have l1 : (ws.map V.str).length = ws.length := List.length_map ..
    refine ⟨_, (pss_cons (ps_if (pt_cmpR (op_eqD hu) (pv 0) (pe_lst (pa_cons pe_str pa_nil)) (nomark _)) (pss_one (ps_ret pe_int)) pss_nil)
      (pss_cons (ps_if (pt_cmpR (op_eqD hu) (pv 0) (pe_lst (pa_cons pe_str pa_nil)) (nomark _)) (pss_one (ps_ret (pe_glob (v := .int 10) (by rfl) mP ⟨_, rfl⟩))) pss_nil)
      (pss_cons (ps_if (pw_and (pt_cmpR op_eq (pe_callB call_len_seq (by rfl) B.len PySem.boot_len (pa_cons (pv 0) pa_nil)) pe_int (nomark _)) (pw_and1 (pt_cmpR op_eq (pe_ix ix_list (pv 0) pe_int (fun _ _ => rfl)) pe_str (nomark _)))).pt (pss_one (ps_ret (pe_call GN hr (by rfl) N.m N.F.kp N.b .nil pass0 (pa_cons (pe_ix ix_list (pv 0) pe_int (fun _ _ => rfl)) (pa_cons pe_int (pa_cons (pe_glob (v := .int 9) (by rfl) mU ⟨_, rfl⟩) pa_nil)))))) pss_nil)
      (pss_one (ps_ret pe_non))))), ?_⟩
    refine q_when (b := PyData.eqv (strsD ws) (strsD ["top"])) (et_test (ev_eqDL (d := strsD ws) (e := strsD ["top"]) (ev_var rfl) (el_lst (vs := (["top"] : List Str).map V.str) (ea_cons ev_c ea_nil) (Nat.le_of_ble_eq_true rfl)) (.lst hS (dp_strs ws)) (fun H9 p _ hp => .lst (sq_of hp) (dp_strs _)) (strs_shaped ok) (by decide +kernel))) (fun z H1 e1 => ?_) (fun z H1 e1 => ?_)
    · refine s_ret ev_c fun H2 e2 => ?_
      have q := k H2 (e1.trans e2)
      unfold depthOf at q
      rw [if_pos z] at q
      exact q
    have hS1 := ex_l e1 hS
    refine q_when (b := PyData.eqv (strsD ws) (strsD ["bottom"])) (et_test (ev_eqDL (d := strsD ws) (e := strsD ["bottom"]) (ev_var rfl) (el_lst (vs := (["bottom"] : List Str).map V.str) (ea_cons ev_c ea_nil) (Nat.le_of_ble_eq_true rfl)) (.lst hS1 (dp_strs ws)) (fun H9 p _ hp => .lst (sq_of hp) (dp_strs _)) (strs_shaped ok) (by decide +kernel))) (fun z2 H2 e2 => ?_) (fun z2 H2 e2 => ?_)
    · refine s_ret ev_c fun H3 e3 => ?_
      have q := k H3 ((e1.trans e2).trans e3)
      unfold depthOf at q
      rw [if_neg (by rw [z]; decide), if_pos z2] at q
      exact q
    have hS2 := ex_l e2 hS1
    refine q_when (b := decide (ws.length = 2) && decide (V.str (ws.getD 0 "") = V.str "under")) (et_and (et_is (et_test (ev_op (ev_len (ev_var rfl) hS2) ev_c (rv_eq rfl))) (by rw [l1]; simp; omega))
        (fun z3 => et_test (ev_op (ev_op (ev_var rfl) ev_c (rv_ixL hS2 (word_at (i := 0) (by have := of_decide_eq_true z3; omega)))) ev_c (rv_eq rfl)))) (fun z3 H3 e3 => ?_) (fun z3 H3 e3 => ?_)
    · have two : ws.length = 2 := of_decide_eq_true (Bool.and_eq_true_iff.mp z3).1
      have hS3 := ex_l e3 hS2
      refine s_ret (num_ev (ev_op (ev_var rfl) ev_c (rv_ixL hS3 (word_at (i := 1) (by omega)))) ev_c ev_c (by decide)) fun H4 e4 => ?_
      have q := k H4 (((e1.trans e2).trans e3).trans e4)
      unfold depthOf at q
      rw [if_neg (by rw [z]; decide), if_neg (by rw [z2]; decide), if_pos z3] at q
      exact q
    · refine s_ret ev_c fun H4 e4 => ?_
      have q := k H4 (((e1.trans e2).trans e3).trans e4)
      unfold depthOf at q
      rw [if_neg (by rw [z]; decide), if_neg (by rw [z2]; decide), if_neg (by rw [z3]; decide)] at q
      exact q
theorem ok_cut {f fn CD fI : Addr} {fd fnd dI : FuncData} {j : Nat} (F : Fun K "read_cut" "read_cut" sCut f fd) (B : Blt mg) (L : Lim mg) (N : Num K mg fn fnd) (D : Dy K mg CD fI dI) :
    FnOk P w K mg base CX0 (j + 3) f fd ["words"] (spCut K CD) := by
  have GN : FnOk P w K mg base CX0 (j + 2) fn fnd ["word", "least", "most"] spNum := ok_num N.F B
  have GI : FnOk P w K mg base CX0 (j + 1) fI dI ["self", "word", "least", "most", "depth", "turned"] (spDayI CD) := ok_dayI D
  obtain ⟨tU, mU⟩ := L.under
  refine F.ok scCut (fun vs H Q E h => ?_) (fun cdv A outer s H vs Q E hr h => ?_)
  · obtain ⟨p, ws, rfl, _⟩ := h
    rfl
  · obtain ⟨p, ws, rfl, hS, hz, ok, k⟩ := h
    have l1 : (ws.map V.str).length = ws.length := List.length_map ..
    refine ⟨_, (pss_cons (ps_if (pt_cmpR op_ne (pe_callB call_len_seq (by rfl) B.len PySem.boot_len (pa_cons (pv 0) pa_nil)) pe_int (nomark _)) (pss_one (ps_ret pe_non)) pss_nil)
      (pss_cons (ps_set (i := 1) scCut.nd rfl (.inl rfl) (pe_call GN hr (by rfl) N.m N.F.kp N.b .nil pass0 (pa_cons (pe_ix ix_list (pv 0) pe_int (fun _ _ => rfl)) (pa_cons pe_int (pa_cons (pe_glob (v := .int 9) (by rfl) mU ⟨_, rfl⟩) pa_nil)))))
      (pss_cons (ps_if (pt_cmpR op_isN (pv 1) pe_non (nomark _)) (pss_one (ps_ret pe_non)) pss_nil)
      (pss_one (ps_ret (pe_make D.M GI hr (by rfl) D.m D.b .nil pass0 (pa_cons pe_str (pa_cons pe_int (pa_cons pe_int (pa_cons (pv 1) (pa_cons pe_bl pa_nil))))))))))), ?_⟩
    refine q_when (b := !decide (ws.length = 2)) (et_is (et_test (ev_op (ev_len (ev_var rfl) hS) ev_c (rv_ne rfl))) (by rw [l1]; simp; omega)) (fun z H1 e1 => ?_) (fun z H1 e1 => ?_)
    · have two : ¬ ws.length = 2 := by simpa using z
      refine s_ret ev_c fun H2 e2 => ?_
      have q := k .non H2 (e1.trans e2)
      unfold cutOf at q
      rw [if_neg two] at q
      exact q rfl
    have two : ws.length = 2 := by simpa using z
    have hS1 := ex_l e1 hS
    have def_ : cutOf ws = (readNum (ws.getD 1 "") 1 9).map fun d => ⟨"cut", 0, 0, d, false⟩ := by
      unfold cutOf
      rw [if_pos two]
    refine q_asg (num_ev (ev_op (ev_var rfl) ev_c (rv_ixL hS1 (word_at (i := 1) (by omega)))) ev_c ev_c (by decide)) fun H2 e2 => ?_
    cases hl : readNum (ws.getD 1 "") 1 9 with
    | none =>
      rw [hl] at def_
      refine q_when (b := true) (et_is (et_test (ev_isN (x := .non) (ev_var rfl))) rfl) (fun _ H3 e3 => ?_) (fun z => nomatch z)
      refine s_ret ev_c fun H4 e4 => ?_
      have q := k .non H4 (((e1.trans e2).trans e3).trans e4)
      rw [def_] at q
      exact q rfl
    | some l =>
      rw [hl] at def_
      refine q_when (b := false) (et_is (et_test (ev_isN (x := .int l) (ev_var rfl))) (by simp)) (fun z => nomatch z) fun _ H3 e3 => ?_
      refine s_retR (er_day (d := ⟨"cut", 0, 0, l, false⟩) (ea_cons ev_c (ea_cons ev_c (ea_cons ev_c (ea_cons (ev_var rfl) (ea_cons ev_c ea_nil)))))) fun v H4 e4 r => ?_
      have q := k v H4 (((e1.trans e2).trans e3).trans e4)
      rw [def_] at q
      exact q r
theorem ok_take {f fn fe CD fI : Addr} {fd fnd fed dI : FuncData} {j : Nat} (F : Fun K "read_take" "read_take" sTake f fd) (B : Blt mg) (L : Lim mg) (N : Num K mg fn fnd) (D : Dy K mg CD fI dI)
    (FE : Fun K "read_depth" "read_depth" sDepth fe fed) (bE : Binds K fed ["words"] []) (mE : mg "read_depth" = some (.ref fe)) :
    FnOk P w K mg base CX0 (j + 3) f fd ["words"] (spTake K CD) := by
  have GN : FnOk P w K mg base CX0 (j + 2) fn fnd ["word", "least", "most"] spNum := ok_num N.F B
  have GI : FnOk P w K mg base CX0 (j + 1) fI dI ["self", "word", "least", "most", "depth", "turned"] (spDayI CD) := ok_dayI D
  have GE : FnOk P w K mg base CX0 (j + 2) fe fed ["words"] (spDepth K) := ok_depth FE B L N
  obtain ⟨tT, mT⟩ := L.taken
  refine F.ok scTake (fun vs H Q E h => ?_) (fun cdv A outer s H vs Q E hr h => ?_)
  · obtain ⟨p, ws, rfl, _⟩ := h
    rfl
  · obtain ⟨p, ws, rfl, hS, hz, ok, k⟩ := h
    have l1 : (ws.map V.str).length = ws.length := List.length_map ..
    refine ⟨_, (pss_cons (ps_if (pw_or (pt_cmpR op_lt (pe_callB call_len_seq (by rfl) B.len PySem.boot_len (pa_cons (pv 0) pa_nil)) pe_int (nomark _)) (pw_or (pt_cmpR op_ne (pe_ix ix_list (pv 0) pe_int (fun _ _ => rfl)) pe_str (nomark _)) (pw_or (pt_cmpR op_ne (pe_ix ix_list (pv 0) pe_int (fun _ _ => rfl)) pe_str (nomark _)) (pw_or1 (pt_cmpR op_ne (pe_ix ix_list (pv 0) pe_int (fun _ _ => rfl)) pe_str (nomark _)))))).pt (pss_one (ps_ret pe_non)) pss_nil)
      (pss_cons (ps_set (i := 1) scTake.nd rfl (.inl rfl) (pe_call GN hr (by rfl) N.m N.F.kp N.b .nil pass0 (pa_cons (pe_ix ix_list (pv 0) pe_int (fun _ _ => rfl)) (pa_cons pe_int (pa_cons (pe_glob (v := .int 6) (by rfl) mT ⟨_, rfl⟩) pa_nil)))))
      (pss_cons (ps_if (pt_cmpR op_isN (pv 1) pe_non (nomark _)) (pss_one (ps_ret pe_non)) pss_nil)
      (pss_cons (ps_set (i := 2) scTake.nd rfl (.inl rfl) (pe_call GN hr (by rfl) N.m N.F.kp N.b .nil pass0 (pa_cons (pe_ix ix_list (pv 0) pe_int (fun _ _ => rfl)) (pa_cons (pv 1) (pa_cons (pe_glob (v := .int 6) (by rfl) mT ⟨_, rfl⟩) pa_nil)))))
      (pss_cons (ps_set (i := 3) scTake.nd rfl (.inl rfl) (pe_call GE hr (by rfl) mE FE.kp bE .nil pass0 (pa_cons (pe_slice sl_list (pv 0) (po_some pe_int) (po_some (pe_un un_neg pe_int))) pa_nil)))
      (pss_cons (ps_if (pw_or (pt_cmpR op_isN (pv 2) pe_non (nomark _)) (pw_or (pt_cmpR op_isN (pv 3) pe_non (nomark _)) (pw_or1 (pt_cmpR op_notIn_seq (pe_ix ix_list (pv 0) (pe_un un_neg pe_int) (fun _ _ => rfl)) (pe_tup (pa_cons pe_str (pa_cons pe_str pa_nil))) rfl)))).pt (pss_one (ps_ret pe_non)) pss_nil)
      (pss_one (ps_ret (pe_make D.M GI hr (by rfl) D.m D.b .nil pass0 (pa_cons pe_str (pa_cons (pv 1) (pa_cons (pv 2) (pa_cons (pv 3) (pa_cons (pe_cmpR op_eq (pe_ix ix_list (pv 0) (pe_un un_neg pe_int) (fun _ _ => rfl)) pe_str (nomark _)) pa_nil)))))))))))))), ?_⟩
    refine q_when (b := decide ((ws.length : Int) < 7) || (!decide (V.str (ws.getD 0 "") = V.str "take") || (!decide (V.str (ws.getD 2 "") = V.str "to") || !decide (V.str (ws.getD 4 "") = V.str "back"))))
      (et_or (et_test (ev_op (ev_is (ev_len (ev_var rfl) hS) (by rw [l1])) ev_c rv_I0)) (fun z1 => ?_)) (fun z H1 e1 => ?_) (fun z H1 e1 => ?_)
    · have many : 7 ≤ ws.length := by
        have := of_decide_eq_false z1
        omega
      exact et_or (et_test (ev_op (ev_op (ev_var rfl) ev_c (rv_ixL hS (word_at (i := 0) (by omega)))) ev_c (rv_ne rfl))) fun _ => et_or (et_test (ev_op (ev_op (ev_var rfl) ev_c (rv_ixL hS (word_at (i := 2) (by omega)))) ev_c (rv_ne rfl))) fun _ => et_test (ev_op (ev_op (ev_var rfl) ev_c (rv_ixL hS (word_at (i := 4) (by omega)))) ev_c (rv_ne rfl))
    · refine s_ret ev_c fun H2 e2 => ?_
      have q := k .non H2 (e1.trans e2)
      unfold takeOf at q
      rw [if_pos z] at q
      exact q rfl
    have many : 7 ≤ ws.length := by
      have := of_decide_eq_false (Bool.or_eq_false_iff.mp z).1
      omega
    have def_ : takeOf ws = (readNum (ws.getD 1 "") 0 6).bind (takeTail ws) := by
      unfold takeOf
      rw [if_neg (by rw [z]; decide)]
    refine q_asg (num_ev (ev_op (ev_var rfl) ev_c (rv_ixL (ex_l e1 hS) (word_at (i := 1) (by omega)))) ev_c ev_c (by decide)) fun H2 e2 => ?_
    have e02 := e1.trans e2
    cases hl : readNum (ws.getD 1 "") 0 6 with
    | none =>
      rw [hl] at def_
      refine q_when (b := true) (et_is (et_test (ev_isN (x := .non) (ev_var rfl))) rfl) (fun _ H3 e3 => ?_) (fun z => nomatch z)
      refine s_ret ev_c fun H4 e4 => ?_
      have q := k .non H4 ((e02.trans e3).trans e4)
      rw [def_] at q
      exact q rfl
    | some l =>
      rw [hl] at def_
      obtain ⟨l0, l6⟩ := readNum_le hl
      refine q_when (b := false) (et_is (et_test (ev_isN (x := .int l) (ev_var rfl))) (by simp)) (fun z => nomatch z) fun _ H3 e3 => ?_
      have e03 := e02.trans e3
      refine q_asg (num_ev (ev_op (ev_var rfl) ev_c (rv_ixL (ex_l e03 hS) (word_at (i := 3) (by omega)))) (ev_var rfl) ev_c (by omega)) fun H4 e4 => ?_
      have e04 := e03.trans e4
      refine q_asg (v := optV (depthOf (cutW ws (some 5) (some (-1))))) (fun H9 e9 Q9 q9 => ?_) fun H5 e5 => ?_
      · refine el_sl (ev_var rfl) (eo_some ev_c) (eo_some (ev_un ev_c ru_neg)) (ex_l e04 hS) H9 e9 _ fun p9 H10 n10 e10 h10 => ⟨p9, cutW ws (some 5) (some (-1)), rfl, ?_, Nat.le_trans (cutW_le _ _ _) hz, ok.cut _ _, fun H11 e11 => q9 H11 (e10.trans e11)⟩
        rw [← cutV_strs]
        exact sq_of h10
      have e05 := e04.trans e5
      have def2 : takeOf ws = takeTail ws l := def_
      refine q_when (b := decide (optV (readNum (ws.getD 3 "") l 6) = V.non) || (decide (optV (depthOf (cutW ws (some 5) (some (-1)))) = V.non) || !inV (.str (ws.getD (ws.length - 1) "")) [.str "kept", .str "turned"]))
        (et_or (et_test (ev_isN (ev_var rfl))) fun _ => et_or (et_test (ev_isN (ev_var rfl))) fun _ => et_test (ev_niU (ev_op (ev_var rfl) (ev_un ev_c ru_neg) (rv_ixL (ex_l e05 hS) (word_last (by omega)))) (eu_tup (ea_cons ev_c (ea_cons ev_c ea_nil)) (Nat.le_of_ble_eq_true rfl)) rfl rfl)) (fun z6 H6 e6 => ?_) (fun z6 H6 e6 => ?_)
      · refine s_ret ev_c fun H7 e7 => ?_
        have q := k .non H7 ((e05.trans e6).trans e7)
        have none_ : takeTail ws l = none := by
          unfold takeTail
          cases h1 : readNum (ws.getD 3 "") l 6 with
          | none => rfl
          | some m =>
            cases h2 : depthOf (cutW ws (some 5) (some (-1))) with
            | none => rfl
            | some e =>
              rw [h1, h2] at z6
              simp only [optV, reduceCtorEq, decide_false, Bool.false_or] at z6
              show (if _ then _ else _) = none
              rw [if_neg (by simpa using z6)]
        rw [def2, none_] at q
        exact q rfl
      · obtain ⟨z7, z8⟩ := Bool.or_eq_false_iff.mp z6
        obtain ⟨z8, z9⟩ := Bool.or_eq_false_iff.mp z8
        obtain ⟨m, hm⟩ : ∃ m, readNum (ws.getD 3 "") l 6 = some m := Option.ne_none_iff_exists'.mp fun y => of_decide_eq_false z7 (optV_none.mpr y)
        obtain ⟨e, he⟩ : ∃ e, depthOf (cutW ws (some 5) (some (-1))) = some e := Option.ne_none_iff_exists'.mp fun y => of_decide_eq_false z8 (optV_none.mpr y)
        have some_ : takeTail ws l = some ⟨"take", l, m, e, decide (V.str (ws.getD (ws.length - 1) "") = V.str "turned")⟩ := by
          unfold takeTail
          rw [hm, he]
          show (if _ then _ else _) = _
          rw [if_pos (by simpa using z9)]
        have hm' : optV (readNum (ws.getD 3 "") l 6) = .int m := by rw [hm]; rfl
        have he' : optV (depthOf (cutW ws (some 5) (some (-1)))) = .int e := by rw [he]; rfl
        refine s_retR (er_day (d := ⟨"take", l, m, e, decide (V.str (ws.getD (ws.length - 1) "") = V.str "turned")⟩) (ea_cons ev_c (ea_cons (ev_var rfl) (ea_cons (ev_is (ev_var rfl) hm') (ea_cons (ev_is (ev_var rfl) he') (ea_cons (ev_op (ev_op (ev_var rfl) (ev_un ev_c ru_neg) (rv_ixL (ex_l (e05.trans e6) hS) (word_last (by omega)))) ev_c (rv_eq rfl)) ea_nil)))))) fun v H7 e7 r => ?_
        have q := k v H7 ((e05.trans e6).trans e7)
        rw [def2, some_] at q
        exact q r
theorem ok_day {f fn fc ft fe CD fI : Addr} {fd fnd fcd ftd fed dI : FuncData} {j : Nat} (F : Fun K "read_day" "read_day" sDay f fd) (B : Blt mg) (L : Lim mg) (N : Num K mg fn fnd) (D : Dy K mg CD fI dI)
    (FE : Fun K "read_depth" "read_depth" sDepth fe fed) (bE : Binds K fed ["words"] []) (mE : mg "read_depth" = some (.ref fe))
    (FC : Fun K "read_cut" "read_cut" sCut fc fcd) (bC : Binds K fcd ["words"] []) (mC : mg "read_cut" = some (.ref fc))
    (FT : Fun K "read_take" "read_take" sTake ft ftd) (bT : Binds K ftd ["words"] []) (mTk : mg "read_take" = some (.ref ft)) :
    FnOk P w K mg base CX0 (j + 4) f fd ["row"] (spDay K CD) := by
  have GI : FnOk P w K mg base CX0 (j + 2) fI dI ["self", "word", "least", "most", "depth", "turned"] (spDayI CD) := ok_dayI D
  have GC : FnOk P w K mg base CX0 (j + 3) fc fcd ["words"] (spCut K CD) := ok_cut FC B L N D
  have GT : FnOk P w K mg base CX0 (j + 3) ft ftd ["words"] (spTake K CD) := ok_take FT B L N D FE bE mE
  refine F.ok scDay (fun vs H Q E h => ?_) (fun cdv A outer s H vs Q E hr h => ?_)
  · obtain ⟨v, rfl, _⟩ := h
    rfl
  · obtain ⟨v, rfl, h⟩ := h
    refine ⟨_, (pss_cons (ps_if (pt_not (pt_val (pe_callB call_isi (by rfl) B.isi bIsi (pa_cons (pv 0) (pa_cons (pe_bltn (v := .ty "str") (by rfl) B.str bStr rfl) pa_nil))))) (pss_one (ps_ret pe_non)) pss_nil)
      (pss_cons (ps_if (pt_cmpR op_in_seq (pv 0) (pe_tup (pa_cons pe_str (pa_cons pe_str pa_nil))) rfl) (pss_one (ps_ret (pe_make D.M GI hr (by rfl) D.m D.b .nil pass0 (pa_cons (pv 0) (pa_cons pe_int (pa_cons pe_int (pa_cons pe_int (pa_cons pe_bl pa_nil)))))))) pss_nil)
      (pss_cons (ps_set (i := 1) scDay.nd rfl (.inl rfl) (pe_split (pv 0) pe_str))
      (pss_cons (ps_if (pt_cmpR op_eq (pe_ix ix_list (pv 1) pe_int (fun _ _ => rfl)) pe_str (nomark _)) (pss_one (ps_ret (pe_call GC hr (by rfl) mC FC.kp bC .nil pass0 (pa_cons (pv 1) pa_nil)))) pss_nil)
      (pss_one (ps_ret (pe_call GT hr (by rfl) mTk FT.kp bT .nil pass0 (pa_cons (pv 1) pa_nil)))))))), ?_⟩
    rcases h with ⟨s, rfl, hz, hz2, ok, k⟩ | ⟨⟨t, ty, kt⟩, k⟩
    · refine q_when (b := false) (et_is (et_not (et_B (ev_isi (ev_var rfl) ev_c (.ty _) (fun _ _ => .base (.str s)) kit_str))) rfl) (fun z => nomatch z) fun _ H1 e1 => ?_
      refine q_when (b := inV (.str s) [.str "turn", .str "rest"]) (et_test (ev_inU (xs := [.str "turn", .str "rest"]) (ev_var rfl) (eu_tup (ea_cons ev_c (ea_cons ev_c ea_nil)) (Nat.le_of_ble_eq_true rfl)) rfl rfl)) (fun z H2 e2 => ?_) (fun z H2 e2 => ?_)
      · refine s_retR (er_day (d := ⟨s, 0, 0, 0, false⟩) (ea_cons (ev_var rfl) (ea_cons ev_c (ea_cons ev_c (ea_cons ev_c (ea_cons ev_c ea_nil)))))) fun v H3 e3 r => ?_
        have q := k v H3 ((e1.trans e2).trans e3)
        unfold dayOf at q
        rw [if_pos z] at q
        exact q r
      have def_ : dayOf s = if V.str ((Txt.split s " ").getD 0 "") = V.str "cut" then cutOf (Txt.split s " ") else takeOf (Txt.split s " ") := by
        rw [dayOf, if_neg (by rw [z]; decide)]
      refine q_asgL (el_split (ev_var rfl) ev_c hz rfl) fun p H3 n3 e3 h3 => ?_
      have e03 := (e1.trans e2).trans e3
      have hS : SqL K H3 p ((Txt.split s " ").map V.str) := sq_of h3
      refine q_when (b := decide (V.str ((Txt.split s " ").getD 0 "") = V.str "cut")) (et_test (ev_op (ev_op (ev_var rfl) ev_c (rv_ixL hS (word_at (i := 0) (PyProof.Rows.split_pos _ _)))) ev_c (rv_eq rfl))) (fun z4 H4 e4 => ?_) (fun z4 H4 e4 => ?_)
      · refine s_retR (R := fun H' u => DayV CD H' (cutOf (Txt.split s " ")) u) (fun H9 e9 Q9 q9 => ⟨.ref p, rfl, p, _, rfl, ex_l (e4.trans e9) hS, hz2, ok, fun u H' e' r => q9 u H' e' r⟩) fun v H5 e5 r => ?_
        have q := k v H5 ((e03.trans e4).trans e5)
        rw [def_, if_pos (of_decide_eq_true z4)] at q
        exact q r
      · refine s_retR (R := fun H' u => DayV CD H' (takeOf (Txt.split s " ")) u) (fun H9 e9 Q9 q9 => ⟨.ref p, rfl, p, _, rfl, ex_l (e4.trans e9) hS, hz2, ok, fun u H' e' r => q9 u H' e' r⟩) fun v H5 e5 r => ?_
        have q := k v H5 ((e03.trans e4).trans e5)
        rw [def_, if_neg (of_decide_eq_false z4)] at q
        exact q r
    · refine q_when (b := true) (et_is (et_not (et_B (ev_isi (ev_var rfl) ev_c (.ty _) ty kt))) rfl) (fun _ H1 e1 => ?_) (fun z => nomatch z)
      exact s_ret ev_c fun H2 e2 => k H2 (e1.trans e2)
theorem ok_first {f fn : Addr} {fd fnd : FuncData} {j : Nat} (F : Fun K "read_first" "read_first" sFirst f fd) (B : Blt mg) (L : Lim mg) (N : Num K mg fn fnd) :
    FnOk P w K mg base CX0 (j + 2) f fd ["row"] (spFirst K) := by
  have GN : FnOk P w K mg base CX0 (j + 1) fn fnd ["word", "least", "most"] spNum := ok_num N.F B
  obtain ⟨tP, mP⟩ := L.plates
  obtain ⟨tA, mA⟩ := L.away
  refine F.ok scFirst (fun vs H Q E h => ?_) (fun cdv A outer s H vs Q E hr h => ?_)
  · obtain ⟨v, rfl, _⟩ := h
    rfl
  · obtain ⟨v, rfl, h⟩ := h
    refine ⟨_, (pss_cons (ps_if (pt_not (pt_val (pe_callB call_isi (by rfl) B.isi bIsi (pa_cons (pv 0) (pa_cons (pe_bltn (v := .ty "str") (by rfl) B.str bStr rfl) pa_nil))))) (pss_one (ps_ret pe_non)) pss_nil)
      (pss_cons (ps_set (i := 1) scFirst.nd rfl (.inl rfl) (pe_split (pv 0) pe_str))
      (pss_cons (ps_if (pw_or (pt_cmpR op_ne (pe_callB call_len_seq (by rfl) B.len PySem.boot_len (pa_cons (pv 1) pa_nil)) pe_int (nomark _)) (pw_or (pt_cmpR op_ne (pe_ix ix_list (pv 1) pe_int (fun _ _ => rfl)) pe_str (nomark _)) (pw_or1 (pt_cmpR op_ne (pe_ix ix_list (pv 1) pe_int (fun _ _ => rfl)) pe_str (nomark _))))).pt (pss_one (ps_ret pe_non)) pss_nil)
      (pss_cons (ps_set (i := 2) scFirst.nd rfl (.inl rfl) (pe_call GN hr (by rfl) N.m N.F.kp N.b .nil pass0 (pa_cons (pe_ix ix_list (pv 1) pe_int (fun _ _ => rfl)) (pa_cons pe_int (pa_cons (pe_glob (v := .int 10) (by rfl) mP ⟨_, rfl⟩) pa_nil)))))
      (pss_cons (ps_set (i := 3) scFirst.nd rfl (.inl rfl) (pe_call GN hr (by rfl) N.m N.F.kp N.b .nil pass0 (pa_cons (pe_ix ix_list (pv 1) pe_int (fun _ _ => rfl)) (pa_cons pe_int (pa_cons (pe_glob (v := .int 2) (by rfl) mA ⟨_, rfl⟩) pa_nil)))))
      (pss_cons (ps_if (pw_or (pt_cmpR op_isN (pv 2) pe_non (nomark _)) (pw_or1 (pt_cmpR op_isN (pv 3) pe_non (nomark _)))).pt (pss_one (ps_ret pe_non)) pss_nil)
      (pss_one (ps_ret (pe_tup (pa_cons (pv 2) (pa_cons (pv 3) pa_nil))))))))))), ?_⟩
    rcases h with ⟨s, rfl, hz, hz2, ok, k⟩ | ⟨⟨t, ty, kt⟩, k⟩
    · refine q_when (b := false) (et_is (et_not (et_B (ev_isi (ev_var rfl) ev_c (.ty _) (fun _ _ => .base (.str s)) kit_str))) rfl) (fun z => nomatch z) fun _ H1 e1 => ?_
      refine q_asgL (el_split (ev_var rfl) ev_c hz rfl) fun p H2 n2 e2 h2 => ?_
      have e02 := e1.trans e2
      have hS : SqL K H2 p ((Txt.split s " ").map V.str) := sq_of h2
      have l1 : ((Txt.split s " ").map V.str).length = (Txt.split s " ").length := List.length_map ..
      refine q_when (b := (!decide (V.int ((Txt.split s " ").length : Int) = V.int 4)) || (!decide (V.str ((Txt.split s " ").getD 0 "") = V.str "plates") || !decide (V.str ((Txt.split s " ").getD 2 "") = V.str "away")))
        (et_or (et_test (ev_op (ev_is (ev_len (ev_var rfl) hS) (by rw [l1])) ev_c (rv_ne rfl))) (fun z1 => ?_)) (fun z H3 e3 => ?_) (fun z H3 e3 => ?_)
      · have four' : ((Txt.split s " ").length : Int) = 4 := by simpa using z1
        have four : (Txt.split s " ").length = 4 := by omega
        exact et_or (et_test (ev_op (ev_op (ev_var rfl) ev_c (rv_ixL (ex_l (Ex.refl _) hS) (word_at (ws := Txt.split s " ") (i := 0) (by omega)))) ev_c (rv_ne rfl))) fun _ => et_test (ev_op (ev_op (ev_var rfl) ev_c (rv_ixL (ex_l (Ex.refl _) hS) (word_at (ws := Txt.split s " ") (i := 2) (by omega)))) ev_c (rv_ne rfl))
      · refine s_ret ev_c fun H4 e4 => ?_
        unfold firstOf at k
        rw [if_pos z] at k
        exact k H4 ((e02.trans e3).trans e4)
      · have four' : ((Txt.split s " ").length : Int) = 4 := by simpa using (Bool.or_eq_false_iff.mp z).1
        have four : (Txt.split s " ").length = 4 := by omega
        have e03 := e02.trans e3
        unfold firstOf at k
        rw [if_neg (by rw [z]; decide)] at k
        refine q_asg (num_ev (ev_op (ev_var rfl) ev_c (rv_ixL (ex_l e3 hS) (word_at (ws := Txt.split s " ") (i := 1) (by omega)))) ev_c ev_c (by decide)) fun H4 e4 => ?_
        have e34 := e3.trans e4
        refine q_asg (num_ev (ev_op (ev_var rfl) ev_c (rv_ixL (ex_l e34 hS) (word_at (ws := Txt.split s " ") (i := 3) (by omega)))) ev_c ev_c (by decide)) fun H5 e5 => ?_
        have e05 := (e03.trans e4).trans e5
        cases h1 : readNum ((Txt.split s " ").getD 1 "") 2 10 with
        | none =>
          rw [h1] at k
          refine q_when (b := true) (et_is (et_or (b := true) (et_test (ev_isN (x := .non) (ev_var rfl))) fun z => nomatch z) rfl) (fun _ H6 e6 => s_ret ev_c fun H7 e7 => ?_) (fun z => nomatch z)
          exact k H7 ((e05.trans e6).trans e7)
        | some n1 =>
          rw [h1] at k
          cases h2 : readNum ((Txt.split s " ").getD 3 "") 0 2 with
          | none =>
            rw [h2] at k
            refine q_when (b := true) (et_is (et_or (et_test (ev_isN (x := .int n1) (ev_var rfl))) fun _ => et_test (ev_isN (x := .non) (ev_var rfl))) rfl) (fun _ H6 e6 => s_ret ev_c fun H7 e7 => ?_) (fun z => nomatch z)
            exact k H7 ((e05.trans e6).trans e7)
          | some n2 =>
            rw [h2] at k
            refine q_when (b := false) (et_is (et_or (et_test (ev_isN (x := .int n1) (ev_var rfl))) fun _ => et_test (ev_isN (x := .int n2) (ev_var rfl))) rfl) (fun z => nomatch z) fun _ H6 e6 => ?_
            exact s_retU (eu_tup (ea_cons (ev_var rfl) (ea_cons (ev_var rfl) ea_nil)) (Nat.le_of_ble_eq_true rfl)) fun p H7 n7 e7 h7 => k p H7 (fresh_back (e05.trans e6) n7) ((e05.trans e6).trans e7) h7
    · refine q_when (b := true) (et_is (et_not (et_B (ev_isi (ev_var rfl) ev_c (.ty _) ty kt))) rfl) (fun _ H1 e1 => ?_) (fun z => nomatch z)
      exact s_ret ev_c fun H2 e2 => k H2 (e1.trans e2)
end
end PW
namespace PW
open PySem PySem.Spec PyProof.Rows L2 Evl
/-! ### rules -/
section
variable {X : Cx} {K : PySem.W.Frag} {σ : L2.St} {H : Hp} {o : Expr} {ta te : TE} {f : Str} {pos : Pos}
/-- o.f = v as one of several targets -/
def gFld (K : PySem.W.Frag) (ta : TE) (f : Str) : TG := fun v σ H Q => ta σ H fun x H1 => ∃ a C dx fs, x = .ref a ∧ H1 a = some (.ins C dx fs) ∧ Cls K C ∧ NoAttr K C f ∧ fs.length < 1000 ∧
  Q σ (upd H1 a (.ins C dx (putF f v fs)))
theorem pg_fld (ho : PE X o ta) : PG X (.Attribute o f pos) (gFld X.K ta f) := by
  refine ⟨fun pins s σ H v u Q I r h => ?_⟩
  rw [show assign (.Attribute o f pos) X.env u = (do
    let ov ← holding [u] (eval o X.env)
    standAt pos.atName
    holding [u, ov] (setAttr ov f u)
    release [u, ov] []) from rfl]
  refine wpAny_bind (wpAny_holding (thn (ho.run pins s σ H _ I h) fun ov s1 ⟨x, H1, I1, rx, a, C, dx, fs, ex, ea, c, n, l, q⟩ => ?_))
  subst ex
  obtain rfl : ov = Value.ref a := rx
  refine wpAny_bind (wpAny_standAt (wpAny_bind (wpAny_holding (setattr_ok I1 ea c n l r fun s3 I3 => ?_))))
  exact wpAny_release ⟨σ, _, I3, q⟩
theorem ev_lenT {p : Addr} {xs : List V} (ha : Ev ta σ H (.ref p)) (h : SqT K H p xs) : Ev (tCB (rLenS K) (tCons ta tNil)) σ H (.int (xs.length : Int)) :=
  ev_cb (ea_cons ha ea_nil) fun H1 e Q q => ⟨p, xs, rfl, .inr (ex_t e h), q H1 (Ex.refl H1)⟩
theorem ev_fld {a C dx : Addr} {fs : List (Str × V)} {v : V} (ha : Ev ta σ H (.ref a)) (h : H a = some (.ins C dx fs)) (c : Cls K C) (n : NoAttr K C f) (l : fs.lookup f = some v) : Ev (tFld K ta f) σ H v := fun H1 e Q q =>
  ha H1 e _ fun H2 e2 => ⟨a, C, dx, fs, v, rfl, (e.trans e2) _ _ h, c, n, l, q H2 e2⟩
end
def fineW (s : Str) : Bool := decide (s.length ≤ 1000) && (decide ((Txt.split s " ").length ≤ 1000) && ((Txt.split s " ").all PyData.strOk && PyData.strOk s))
theorem fine_of {s : Str} (h : fineW s = true) : s.length ≤ 1000 ∧ (Txt.split s " ").length ≤ 1000 ∧ OkW (Txt.split s " ") := by
  unfold fineW at h
  simp only [Bool.and_eq_true, decide_eq_true_eq] at h
  exact ⟨h.1, h.2.1, List.all_eq_true.mp h.2.2.1⟩
theorem fine_ok {s : Str} (h : fineW s = true) : PyData.strOk s = true := by
  unfold fineW at h
  simp only [Bool.and_eq_true, decide_eq_true_eq] at h
  exact h.2.2.2
/-- the rows of a rule -/
structure Good (ss : List Str) (a b : Int) : Prop where
  two : 2 ≤ ss.length
  seven : ss.length ≤ 7
  head : firstOf (ss.getD 0 "") = some (a, b)
  fine : ∀ x ∈ ss, fineW x = true
  days : ∀ i, 1 ≤ i → i < ss.length → isDay (ss.getD i "") = true
theorem Good.oks {ss : List Str} {a b : Int} (G : Good ss a b) : OkW ss := fun x hx => fine_ok (G.fine x hx)
def ruleF (p q : Addr) (a b : Int) : List (Str × V) := [("_rows", .ref p), ("_plates", .int a), ("_away", .int b), ("days", .ref q)]
theorem upd_upd_far {H : Hp} {x q : Addr} {o u v : HO} (h : q ≠ x) : upd (upd (upd H x o) q u) x v = upd (upd H q u) x v := by
  funext b
  unfold upd
  by_cases z : b = x
  · simp only [if_pos z]
  · simp only [if_neg z]
/-- the days that the rows tell -/
def DaysV (CD : Addr) (H : Hp) (os : List (Option DayD)) (ds : List V) : Prop := ds.length = os.length ∧ ∀ i v, ds[i]? = some v → DayV CD H (os.getD i none) v
theorem DaysV.keep {CD : Addr} {H H' : Hp} {os : List (Option DayD)} {ds : List V} (h : DaysV CD H os ds) (k : ∀ p dx d, H p = some (.ins CD dx (dayF d)) → H' p = some (.ins CD dx (dayF d))) : DaysV CD H' os ds :=
  ⟨h.1, fun i v e => (h.2 i v e).keep k⟩
theorem DaysV.ext {CD : Addr} {H H' : Hp} {os : List (Option DayD)} {ds : List V} (h : DaysV CD H os ds) (e : Ex H H') : DaysV CD H' os ds := h.keep fun _ _ _ q => e _ _ q
/-- at x a rule of these rows -/
def RuleAt (H : Hp) (C CD x : Addr) (ss : List Str) (a b : Int) : Prop := ∃ dx p q ds, H x = some (.ins C dx (ruleF p q a b)) ∧ H p = some (.tup (ss.map V.str)) ∧ H q = some (.tup ds) ∧ DaysV CD H ((ss.drop 1).map dayOf) ds
theorem RuleAt.ext {H H' : Hp} {C CD x : Addr} {ss : List Str} {a b : Int} (r : RuleAt H C CD x ss a b) (e : Ex H H') : RuleAt H' C CD x ss a b :=
  let ⟨dx, p, q, ds, h1, h2, h3, h4⟩ := r
  ⟨dx, p, q, ds, e _ _ h1, e _ _ h2, e _ _ h3, h4.ext e⟩
structure Ru (K : PySem.W.Frag) (C : Addr) : Prop where
  cl : Cls K C
  nr : NoAttr K C "_rows"
  nd : NoAttr K C "days"
  np : NoAttr K C "_plates"
  na : NoAttr K C "_away"
abbrev sInit : Stmt := inClass (top 20) 0
theorem scInit : FnScope ["self", "rows", "first", "days", "row"] ["self", "rows"] (defScope sInit) := ⟨rfl, rfl, rfl, by decide +kernel, rfl, by decide +kernel, by decide +kernel⟩
theorem bTuple : bootBuiltins "tuple" = some (.type "tuple") := by decide +kernel
structure Texts (K : PySem.W.Frag) (mg : Str → Option Value) (fn fe fc ft fy ff CD fI : Addr) (nd ed cd td yd qd dI : FuncData) : Prop where
  N : Num K mg fn nd
  D : Dy K mg CD fI dI
  E : Fun K "read_depth" "read_depth" sDepth fe ed
  bE : Binds K ed ["words"] []
  mE : mg "read_depth" = some (.ref fe)
  C : Fun K "read_cut" "read_cut" sCut fc cd
  bC : Binds K cd ["words"] []
  mC : mg "read_cut" = some (.ref fc)
  T : Fun K "read_take" "read_take" sTake ft td
  bT : Binds K td ["words"] []
  mT : mg "read_take" = some (.ref ft)
  Y : Fun K "read_day" "read_day" sDay fy yd
  bY : Binds K yd ["row"] []
  mY : mg "read_day" = some (.ref fy)
  F : Fun K "read_first" "read_first" sFirst ff qd
  bF : Binds K qd ["row"] []
  mF : mg "read_first" = some (.ref ff)
  ob : PySem.W.mroIn K CD (.type "object") = some true
  eq : PySem.W.findIn K (.ref CD) "__eq__" = some (some (.builtin "object.__eq__"))
abbrev sBad : Stmt := inClass (top 17) 0
theorem scBad : FnScope ["self", "index"] ["self", "index"] (defScope sBad) := ⟨rfl, rfl, rfl, by decide +kernel, rfl, by decide +kernel, by decide +kernel⟩
def spBad (C : Addr) : Sp := fun vs H Q _ => ∃ (a : Addr) (v : V), vs = [.ref a, v] ∧ H a = some (exo a C none) ∧
  ∀ d, H d = none → d ≠ a → Q .non (upd (upd H d (exd d [("index", v)])) a (exo a C (some d)))
def daysOf (os : List (Option Str)) : List (Option DayD) := (os.drop 1).map (·.bind dayOf)
def flawOf (os : List (Option Str)) : Option V := if 2 ≤ os.length ∧ os.length ≤ 7 then (match (os.getD 0 none).bind firstOf with
  | none => some (.int 0)
  | some _ => ((daysOf os).findIdx? Option.isNone).map fun j => V.int ((j : Int) + 1)) else some .non
/-- a value in a rule's row: a text that can be read, or no text -/
def RowV (K : PySem.W.Frag) (H : Hp) (v : V) : Option Str → Prop
  | some s => v = .str s ∧ s.length ≤ 1000 ∧ (Txt.split s " ").length ≤ 1000 ∧ OkW (Txt.split s " ")
  | none => NoStr K H v
theorem RowV.ext {K : PySem.W.Frag} {H H' : Hp} {v : V} : ∀ {o : Option Str}, RowV K H v o → Ex H H' → RowV K H' v o
  | some _, h, _ => h
  | none, ⟨t, ty, kt⟩, e => ⟨t, fun H1 e1 => ty H1 (e.trans e1), kt⟩
/-- a list comprehension over a new tuple whose elements are told by a property -/
theorem er_lcT {K : PySem.W.Frag} {σ : L2.St} {H : Hp} {tl te : TE} {j : Nat} {vs : List Nat} {xs : List V} {R : Nat → Hp → V → Prop} (h : EvU tl σ H xs) (hz : xs.length ≤ 40000) (hw : ∀ x, wipe ((wipe σ vs).set j (some x)) vs = wipe σ vs)
    (RM : ∀ i H H' v, (∀ p C dx fs, H p = some (.ins C dx fs) → H' p = some (.ins C dx fs)) → R i H v → R i H' v)
    (he : ∀ (i : Nat) (x : V) H1, Ex H H1 → xs[i]? = some x → EvR te ((wipe σ vs).set j (some x)) H1 (R i)) :
    EvR (tLc (iTup K tl) (gName j) tYes te vs) σ H (fun H' v => ∃ l ys, v = .ref l ∧ H' l = some (.lst ys) ∧ ys.length = xs.length ∧ ∀ i y, ys[i]? = some y → R i H' y) := fun H0 e Q q => h H0 e _ fun a H1 ha e1 hx => ⟨a, rfl, ⟨xs, st_of hx⟩, fun Dl hD =>
  lc_tup (xs := xs) (fun i H' => Ex H1 H' ∧ ∃ acc, H' Dl = some (.lst acc) ∧ acc.length = i ∧ ∀ k y, acc[k]? = some y → R k H' y) ⟨Ex.new hD, [], upd_same, rfl, fun k y hk => by simp at hk⟩ (fun i H' _ p => st_of (p.1 a _ hx))
    (fun i x H' hi p => ⟨hw x, by
      obtain ⟨p2, acc, p3, p4, p5⟩ := p
      show te ((wipe σ vs).set j (some x)) H' fun y H4 => ∃ acc, H4 Dl = some (.lst acc) ∧ acc.length < sizeLine ∧ Ex H1 (upd H4 Dl (.lst (acc ++ [y]))) ∧ ∃ acc', (upd H4 Dl (.lst (acc ++ [y]))) Dl = some (.lst acc') ∧ acc'.length = i + 1 ∧ ∀ k y', acc'[k]? = some y' → R k (upd H4 Dl (.lst (acc ++ [y]))) y'
      have hix : i < xs.length := (List.getElem?_eq_some_iff.mp hi).1
      refine he i x H' ((e.trans e1).trans p2) hi H' (Ex.refl H') _ fun y H4 e4 r => ⟨acc, e4 _ _ p3, sz_lt (by omega), Ex.mut (p2.trans e4) hD, acc ++ [y], upd_same, by simp [p4], fun k y' hk => ?_⟩
      have keep : ∀ p C dx fs, H4 p = some (.ins C dx fs) → (upd H4 Dl (.lst (acc ++ [y]))) p = some (.ins C dx fs) := fun p C dx fs hp => by
        have ne : p ≠ Dl := fun z => by
          rw [z, e4 _ _ p3] at hp
          cases hp
        rw [upd_ne ne]
        exact hp
      by_cases hk2 : k < acc.length
      · rw [List.getElem?_append_left hk2] at hk
        exact RM k _ _ _ (fun p C dx fs hp => keep p C dx fs (e4 _ _ hp)) (p5 k y' hk)
      · have hk3 : k = acc.length := by
          have := (List.getElem?_eq_some_iff.mp hk).1
          simp at this
          omega
        subst hk3
        rw [List.getElem?_append_right (Nat.le_refl _), Nat.sub_self] at hk
        obtain rfl := Option.some.inj hk
        rw [p4]
        exact RM i _ _ _ keep r⟩)
    (fun H' p => by
      obtain ⟨p2, acc, p3, p4, p5⟩ := p
      exact q (.ref Dl) H' (e1.trans p2) ⟨Dl, acc, rfl, p3, p4, p5⟩)⟩
section
variable {P : Program} {w : World} {K : PySem.W.Frag} {mg : Str → Option Value} {base : Heap} {fn fe fc ft fy ff CD fI : Addr} {nd ed cd td yd qd dI : FuncData}
theorem taker_of {K : PySem.W.Frag} {C : Addr} {g : Str} (h : PySem.W.findIn K (.ref C) g = some none) : PySem.W.takerIn K C g = some none := by
  unfold PySem.W.takerIn
  rw [h]
  rfl
theorem ok_bad {f C : Addr} {fd : FuncData} {j : Nat} (F : Fun K "__init__" "InvalidRows.__init__" sBad f fd) (T : XC K C) (no : PySem.W.findIn K (.ref C) "index" = some none) :
    FnOk P w K mg base CX0 (j + 1) f fd ["self", "index"] (spBad C) := by
  refine F.ok scBad (fun vs H Q E h => ?_) (fun cdv A outer s H vs Q E hr h => ?_)
  · obtain ⟨a, v, rfl, _⟩ := h
    rfl
  · obtain ⟨a, v, rfl, ha, k⟩ := h
    exact ⟨_, pss_one (ps_put (pv 0) (pv 1)), v, rfl, .ref a, rfl, a, C, rfl, T, taker_of no, .inl ⟨ha, fun d nd ne => k d nd ne⟩⟩
/-- the class InvalidRows -/
structure Bad (K : PySem.W.Frag) (mg : Str → Option Value) (CR fR : Addr) (dR : FuncData) : Prop where
  F : Fun K "__init__" "InvalidRows.__init__" sBad fR dR
  T : XC K CR
  no : PySem.W.findIn K (.ref CR) "index" = some none
  i : PySem.W.findIn K (.ref CR) "__init__" = some (some (.ref fR))
  t : PySem.W.typeIn K (.ref fR) = some (.type "function")
  m : mg "InvalidRows" = some (.ref CR)
  sub : PySem.W.subIn K (.ref CR) (.type "BaseException") = some true
  ty : PySem.W.typeIn K (.ref CR) = some (.type "type")
theorem Bad.binds {CR fR : Addr} {dR : FuncData} (B : Bad K mg CR fR dR) (s : Shared) (us : List Value) (hl : us.length = (["self", "index"] : List Str).length) :
    BindsTo s dR ⟨us, []⟩ ((["self", "index"] : List Str).zip us) := by
  obtain ⟨_, _, _, _, _, _, _, _, _, rfl, _, _⟩ := B.F.ex
  match us, hl with
  | [_, _], _ => exact .of_eq rfl
/-- what is left of the making: the error raised at its end -/
theorem raise_bad {CR : Addr} {ta : TA} {σ : L2.St} {H : Hp} {v : V} {H0 : Hp} {X : Cx} {E : XK} (hX : X.H_0 = H0) (e0 : Ex H0 H) (ha : EvA ta σ H [v]) (r : Raises X (.ref CR))
    (k : ∀ d H', H d = none → Ex H H' → H' d = some (exd d [("index", v)]) → E (.ref CR) (some d) H') :
    tMkX CR (spBad CR) ta σ H fun x H1 => ∃ a C d, x = .ref a ∧ H1 a = some (exo a C d) ∧ Fr0 X.H_0 a ∧ Raises X (.ref C) ∧ E (.ref C) d (delH H1 a) := by
  refine ha H (Ex.refl H) _ fun H1 e1 => ⟨by show 1 ≤ 1000; decide, fun a na => ⟨a, v, rfl, upd_same, fun d nd ne => ⟨rfl, a, CR, some d, rfl, upd_same, ?_, r, ?_⟩⟩⟩
  · rw [hX]
    exact fr0_none (fresh_back (e0.trans e1) na)
  · have nd' : H1 d = none := by rw [upd_ne ne] at nd; exact nd
    refine k d _ (fresh_back e1 nd') (fun b o e => ?_) ?_
    · have q := e1 _ _ e
      have ba : b ≠ a := ne_of_none q na
      have bd : b ≠ d := ne_of_none q nd'
      rw [delH_ne ba, upd_ne ba, upd_ne bd, upd_ne ba]
      exact q
    · rw [delH_ne ne, upd_ne ne, upd_same]
theorem dayV_or {H : Hp} {o : Option DayD} {v : V} (Z : Texts K mg fn fe fc ft fy ff CD fI nd ed cd td yd qd dI) (h : DayV CD H o v) : NoneOr K H v := by
  cases o with
  | none => exact .inl h
  | some d =>
    obtain ⟨p, e, dx, hp⟩ := h
    exact .inr ⟨p, CD, dx, _, e, hp, Z.ob, Z.eq⟩
def spInitX (K : PySem.W.Frag) (C CR CD : Addr) : Sp := fun vs H Q E => ∃ (x dx p : Addr) (xs : List V) (os : List (Option Str)), vs = [.ref x, .ref p] ∧ H x = some (.ins C dx []) ∧ H p = some (.tup xs) ∧
  xs.length ≤ 1000 ∧ os.length = xs.length ∧ (∀ i v, xs[i]? = some v → RowV K H v (os.getD i none)) ∧
  match flawOf os with
  | some v => ∀ d H', H d = none → Ex H H' → H' d = some (exd d [("index", v)]) → E (.ref CR) (some d) H'
  | none => ∀ H', (∀ c o, c ≠ x → H c = some o → H' c = some o) → (∃ dx q a b ds, H' x = some (.ins C dx (ruleF p q a b)) ∧ H' p = some (.tup xs) ∧ H' q = some (.tup ds) ∧ DaysV CD H' (daysOf os) ds ∧ (os.getD 0 none).bind firstOf = some (a, b)) → Q .non H'
theorem ok_initX {f C CR fR : Addr} {fd dR : FuncData} (F : Fun K "__init__" "Rule.__init__" sInit f fd) (B : Blt mg) (L : Lim mg) (R : Ru K C) (Z : Texts K mg fn fe fc ft fy ff CD fI nd ed cd td yd qd dI) (D : Bad K mg CR fR dR) :
    FnR P w K mg base (L2N.CX P w) 5 f (fun vs H Q E => ∃ ws rest, vs = ws ++ rest ∧ ws.length = (["self"] : List Str).length ∧ rest.length ≤ sizeLine ∧ ∀ p, H p = none → spInitX K C CR CD (ws ++ [V.ref p]) (upd H p (.tup rest)) Q E) := by
  have GF : FnOk P w K mg base CX0 4 ff qd ["row"] (spFirst K) := ok_first (j := 2) Z.F B L Z.N
  have GY : FnOk P w K mg base CX0 4 fy yd ["row"] (spDay K CD) := ok_day (j := 0) Z.Y B L Z.N Z.D Z.E Z.bE Z.mE Z.C Z.bC Z.mC Z.T Z.bT Z.mT
  have GB : FnOk P w K mg base CX0 1 fR dR ["self", "index"] (spBad CR) := ok_bad (j := 0) D.F D.T D.no
  obtain ⟨tD, mD⟩ := L.days
  obtain ⟨oc, od, kV, doc, pm, an, cdv, ct, osl, rfl, lk, hcd⟩ := F.ex
  refine StX.fn_star (pv := "rows") lk hcd scInit cxUpN (StX.bind_star1 (B := fun us => bindArgs (PySem.W.fnOf "__init__" "Rule.__init__" (defArgs sInit) (defBody sInit) (defScope sInit) .none kV doc pm an cdv ct) ⟨us, []⟩) (p1 := "self") (pv := "rows") (fun a => rfl) (fun a r rs => rfl)) fun A outer s H vs Q E hr h => ?_
  obtain ⟨x, dx, p, xs, os, rfl, hx, hp, hz, hl, hv, k⟩ := h
  have hr2 := hr.mono (j := 2) (by decide)
  have hu : A.units + 3 + 64 < cLine := hr.units
  refine ⟨_, (pss_cons (ps_if (pt_not (pt_chain op_le op_le pe_int (pe_callB call_len_seq (by rfl) B.len PySem.boot_len (pa_cons (pv 1) pa_nil)) (pe_op op_add pe_int (pe_glob (v := .int 6) (by rfl) mD ⟨_, rfl⟩)))) (pss_one (L2N.ps_raise rfl (L2N.takes_of rfl rfl rfl rfl) (pmkN_exo rfl (pe_mkX D.T D.i D.t GB hr2 (by rfl) D.m (pa_cons pe_non pa_nil) D.binds)))) pss_nil)
      (pss_cons (ps_set (i := 2) scInit.nd rfl (.inl rfl) (pe_call GF hr (by rfl) Z.mF Z.F.kp Z.bF .nil pass0 (pa_cons (pe_ix ix_tup (pv 1) pe_int (fun _ _ => rfl)) pa_nil)))
      (pss_cons (ps_if (pt_cmpR op_isN (pv 2) pe_non (nomark _)) (pss_one (L2N.ps_raise rfl (L2N.takes_of rfl rfl rfl rfl) (pmkN_exo rfl (pe_mkX D.T D.i D.t GB hr2 (by rfl) D.m (pa_cons pe_int pa_nil) D.binds)))) pss_nil)
      (pss_cons (ps_setLc (i := 3) (own := [("row", 4)]) (g := gName 4) (tt := tYes) rfl scInit.nd rfl rfl (sw_true rfl rfl rfl (by decide +kernel)) (pi_tup (pe_slice sl_tup (pv 1) (po_some pe_int) po_none)) (blkOk_by (N := ["self", "rows", "first", "days", "row"]) (sc := defScope sInit) (by decide +kernel)) (fun _ _ _ _ _ => pg_name (i := 4) scInit.nd rfl (Or.inl rfl)) (fun _ _ _ _ _ => pts_nil) (fun _ _ _ _ _ => pe_call GY hr (by rfl) Z.mY Z.Y.kp Z.bY .nil pass0 (pa_cons (pv 4) pa_nil)))
      (pss_cons (ps_if (pt_cmpR (op_noneIn hu) pe_non (pv 3) rfl) (pss_one (L2N.ps_raise rfl (L2N.takes_of rfl rfl rfl rfl) (pmkN_exo rfl (pe_mkX D.T D.i D.t GB hr2 (by rfl) D.m (pa_cons (pe_op op_add (pe_bm PySem.F.plainAttrs_list PySem.F.slot_list_index PySem.F.type_list_index (mt_indexN hu) (pv 3) (pa_cons pe_non pa_nil)) pe_int) pa_nil) D.binds)))) pss_nil)
      (pss_cons (ps_fld (pv 0) (pv 1) rfl)
      (pss_cons (ps_asg (pv 2) (pg_tup rfl (pgs_cons (pg_fld (pv 0)) (pgs_cons (pg_fld (pv 0)) pgs_nil))))
      (pss_one (ps_fld (pv 0) (pe_callTy call_tuple_of (by rfl) B.tuple bTuple (pa_cons (pv 3) pa_nil)) rfl))))))))), ?_⟩
  have rai : ∀ {X : Cx}, X.K = K → Raises X (.ref CR) := fun {X} hK => raises_own (by rw [hK]; exact D.sub) (by rw [hK]; exact D.ty)
  have okl : ∀ {H9 : Hp}, Ex H H9 → Ev (tCB (rLenS K) (tCons (tVar 1) tNil)) [some (.ref x), some (.ref p), none, none, none] H9 (.int (xs.length : Int)) := fun e9 => ev_lenT (ev_var rfl) (st_of (e9 _ _ hp))
  refine q_when (b := !(decide ((2 : Int) ≤ (xs.length : Int)) && decide ((xs.length : Int) ≤ 1 + 6))) (et_not (et_test (ev_chain ev_c (okl (Ex.refl H)) (ev_op ev_c ev_c rv_I0) rv_I0 (fun _ => rv_I0)))) (fun z H1 e1 => ?_) (fun z H1 e1 => ?_)
  · have no : ¬ (2 ≤ os.length ∧ os.length ≤ 7) := fun y => by
      rw [hl] at y
      rw [decide_eq_true (show (2 : Int) ≤ (xs.length : Int) by omega), decide_eq_true (show (xs.length : Int) ≤ 1 + 6 by omega)] at z
      cases z
    have fl : flawOf os = some .non := by
      unfold flawOf
      rw [if_neg no]
    rw [fl] at k
    exact raise_bad (H0 := H) rfl e1 (ea_cons ev_c ea_nil) (rai rfl) fun d H' nd e' hd => k d H' (fresh_back e1 nd) (e1.trans e') hd
  have z' : (decide ((2 : Int) ≤ (xs.length : Int)) && decide ((xs.length : Int) ≤ 1 + 6)) = true := by simpa using z
  have l2 : 2 ≤ xs.length := by
    have := of_decide_eq_true (Bool.and_eq_true_iff.mp z').1
    omega
  have l7 : xs.length ≤ 7 := by
    have := of_decide_eq_true (Bool.and_eq_true_iff.mp z').2
    omega
  have ite_ : flawOf os = (match (os.getD 0 none).bind firstOf with
      | none => some (.int 0)
      | some _ => ((daysOf os).findIdx? Option.isNone).map fun j => V.int ((j : Int) + 1)) := by
    unfold flawOf
    rw [if_pos (by omega)]
  have item : ∀ i, i < xs.length → ∃ v, atI xs (i : Int) = some v ∧ RowV K H v (os.getD i none) := fun i hi =>
    ⟨xs[i], atI_nat (List.getElem?_eq_getElem hi), hv i _ (List.getElem?_eq_getElem hi)⟩
  obtain ⟨v0, hv0, rv0⟩ := item 0 (by omega)
  have hp1 := e1 _ _ hp
  cases h0 : (os.getD 0 none).bind firstOf with
  | none =>
    have fl : flawOf os = some (.int 0) := by rw [ite_, h0]
    rw [fl] at k
    refine q_asg (v := .non) (fun H9 e9 Q9 q9 => ev_op (ev_var rfl) ev_c (rv_ixT (st_of hp1) hv0) H9 e9 _ fun H8 e8 => ⟨v0, rfl, ?_⟩) fun H2 e2 => ?_
    · cases ho : os.getD 0 none with
      | none =>
        rw [ho] at rv0
        exact .inr ⟨RowV.ext (o := none) rv0 ((e1.trans e9).trans e8), fun H7 e7 => q9 H7 (e8.trans e7)⟩
      | some t0 =>
        rw [ho] at rv0 h0
        obtain ⟨r1, r2, r3, r4⟩ := rv0
        refine .inl ⟨t0, r1, r2, r3, r4, ?_⟩
        rw [show firstOf t0 = none from h0]
        exact fun H7 e7 => q9 H7 (e8.trans e7)
    · refine q_when (b := true) (et_is (et_test (ev_isN (x := .non) (ev_var rfl))) rfl) (fun _ H3 e3 => ?_) (fun z => nomatch z)
      exact raise_bad (H0 := H) rfl ((e1.trans e2).trans e3) (ea_cons ev_c ea_nil) (rai rfl) fun d H' nd e' hd => k d H' (fresh_back ((e1.trans e2).trans e3) nd) (((e1.trans e2).trans e3).trans e') hd
  | some ab =>
    obtain ⟨a, b⟩ := ab
    have fl : flawOf os = ((daysOf os).findIdx? Option.isNone).map fun j => V.int ((j : Int) + 1) := by rw [ite_, h0]
    obtain ⟨t0, ho, hf⟩ : ∃ t0, os.getD 0 none = some t0 ∧ firstOf t0 = some (a, b) := by
      cases ho : os.getD 0 none with
      | none =>
        rw [ho] at h0
        cases h0
      | some t0 =>
        rw [ho] at h0
        exact ⟨t0, rfl, h0⟩
    refine q_asgU (xs := [.int a, .int b]) (fun H9 e9 Q9 q9 => ev_op (ev_var rfl) ev_c (rv_ixT (st_of hp1) hv0) H9 e9 _ fun H8 e8 => ⟨v0, rfl, ?_⟩) fun t H2 nt e2 ht => ?_
    · rw [ho] at rv0
      obtain ⟨r1, r2, r3, r4⟩ := rv0
      refine .inl ⟨t0, r1, r2, r3, r4, ?_⟩
      rw [hf]
      exact fun t H' nt e' ht => q9 t H' (fresh_back e8 nt) (e8.trans e') ht
    have e02 := e1.trans e2
    refine q_when (b := false) (et_is (et_test (ev_isN (x := .ref t) (ev_var rfl))) (by simp)) (fun z => nomatch z) fun _ H3 e3 => ?_
    have e03 := e02.trans e3
    have hp3 := e03 _ _ hp
    have ht3 := e3 _ _ ht
    have cut1 : cutV xs (some 1) none = xs.drop 1 := by
      unfold cutV
      have m1 : HT.sIx xs.length 0 (some 1) = 1 := by
        rw [show (1 : Int) = ((1 : Nat) : Int) from rfl, HT.sIx_nat]
        omega
      rw [m1, HT.sIx_none, List.take_of_length_le (by rw [List.length_drop]; omega)]
    refine q_asgR (er_lcT (K := K) (xs := xs.drop 1) (R := fun i H' v => DayV CD H' ((daysOf os).getD i none) v) (fun H9 e9 Q9 q9 => ?_) (by rw [List.length_drop]; omega) (fun _ => rfl) (fun i H H' v kp r => r.keep fun p dx d => kp p _ dx _) (fun i y H9 e9 hi H8 e8 Q8 q8 => ?_)) fun v H4 e4 r4 => ?_
    · refine ⟨.ref p, rfl, 1, rfl, p, xs, rfl, st_of (e9 _ _ hp3), ?_, fun q nq => q9 q _ nq (Ex.new nq) ?_⟩
      · intro z
        have z1 := z.1
        rw [show (1 : Int) = ((1 : Nat) : Int) from rfl, HT.sIx_nat] at z1
        omega
      · rw [cut1]
        exact upd_same
    · have hi2 : xs[1 + i]? = some y := by
        rw [List.getElem?_drop] at hi
        exact hi
      have rv1 := hv _ _ hi2
      have hlt : 1 + i < xs.length := (List.getElem?_eq_some_iff.mp hi2).1
      have same : (daysOf os).getD i none = (os.getD (1 + i) none).bind dayOf := by
        have h1 : 1 + i < os.length := by omega
        rw [daysOf, List.getD_eq_getElem?_getD, List.getElem?_map, List.getElem?_drop, List.getD_eq_getElem?_getD, List.getElem?_eq_getElem h1]
        rfl
      refine ⟨y, rfl, y, rfl, ?_⟩
      cases hq : os.getD (1 + i) none with
      | none =>
        rw [hq] at rv1 same
        refine .inr ⟨RowV.ext (o := none) rv1 ((e03.trans e9).trans e8), fun H6 e6 => q8 .non H6 e6 ?_⟩
        rw [same]
        exact rfl
      | some s1 =>
        rw [hq] at rv1 same
        obtain ⟨r1, r2, r3, r4⟩ := rv1
        refine .inl ⟨s1, r1, r2, r3, r4, fun u H6 e6 r => q8 u H6 e6 ?_⟩
        rw [same]
        exact r
    obtain ⟨l, ds, rfl, hl4, dl, dr⟩ := r4
    have dlen : ds.length = (daysOf os).length := by
      rw [dl, daysOf, List.length_map, List.length_drop, List.length_drop]
      omega
    have DV : DaysV CD H4 (daysOf os) ds := ⟨dlen, dr⟩
    have e04 := e03.trans e4
    have nor : ∀ {H9 : Hp}, Ex H4 H9 → ∀ z ∈ ds, NoneOr K H9 z := fun e9 z hz => by
      obtain ⟨i, hi⟩ := List.mem_iff_getElem?.mp hz
      exact dayV_or Z ((dr i z hi).ext e9)
    have anyE : ds.any isNon = ((daysOf os).findIdx? Option.isNone).isSome := by
      cases hf : (daysOf os).findIdx? Option.isNone with
      | none =>
        have all := List.findIdx?_eq_none_iff.mp hf
        show _ = false
        refine List.any_eq_false.mpr fun z hz => ?_
        obtain ⟨i, hi⟩ := List.mem_iff_getElem?.mp hz
        have hlt := (List.getElem?_eq_some_iff.mp hi).1
        have q := dr i z hi
        have hi2 : i < (daysOf os).length := by omega
        have q2 := all _ (List.getElem_mem hi2)
        rw [List.getD_eq_getElem?_getD, List.getElem?_eq_getElem hi2] at q
        cases hd : (daysOf os)[i] with
        | none =>
          rw [hd] at q2
          cases q2
        | some d =>
          rw [hd] at q
          obtain ⟨p9, rfl, _⟩ := q
          exact fun z => Bool.noConfusion z
      | some j =>
        obtain ⟨hj, h1, _⟩ := List.findIdx?_eq_some_iff_getElem.mp hf
        show _ = true
        have hj2 : j < ds.length := by omega
        refine List.any_eq_true.mpr ⟨ds[j], List.getElem_mem hj2, ?_⟩
        have q := dr j _ (List.getElem?_eq_getElem hj2)
        rw [List.getD_eq_getElem?_getD, List.getElem?_eq_getElem hj] at q
        cases hd : (daysOf os)[j] with
        | none =>
          rw [hd] at q
          rw [show ds[j] = V.non from q]
          rfl
        | some d =>
          rw [hd] at h1
          cases h1
    refine q_when (b := ((daysOf os).findIdx? Option.isNone).isSome) (et_is (et_test (ev_noneIn ev_c (ev_var rfl) (sq_of hl4) (nor (Ex.refl H4)))) anyE) (fun z5 H5 e5 => ?_) (fun z5 H5 e5 => ?_)
    · obtain ⟨j, hf⟩ := Option.isSome_iff_exists.mp z5
      obtain ⟨hj, h1, h2⟩ := List.findIdx?_eq_some_iff_getElem.mp hf
      have fl2 : flawOf os = some (.int ((j : Int) + 1)) := by rw [fl, hf]; rfl
      rw [fl2] at k
      have e05 := e04.trans e5
      refine raise_bad (H0 := H) rfl e05 (ea_cons (x := .int ((j : Int) + 1)) (ev_op (ev_indexN (j := j) (ev_var rfl) (sq_of (e5 _ _ hl4)) ev_c (nor e5) ?_ ?_) ev_c rv_I0) ea_nil) (rai rfl) fun d H' nd e' hd => k d H' (fresh_back e05 nd) (e05.trans e') hd
      · have hj2 : j < ds.length := by omega
        have q := dr j _ (List.getElem?_eq_getElem hj2)
        rw [List.getD_eq_getElem?_getD, List.getElem?_eq_getElem hj] at q
        cases hd : (daysOf os)[j] with
        | none =>
          rw [hd] at q
          rw [List.getElem?_eq_getElem hj2]
          exact congrArg some q
        | some d =>
          rw [hd] at h1
          cases h1
      · intro m z9 hm hz9
        have q := dr m _ hz9
        have hm2 : m < (daysOf os).length := by omega
        have h3 := h2 m hm
        rw [List.getD_eq_getElem?_getD, List.getElem?_eq_getElem hm2] at q
        cases hd : (daysOf os)[m] with
        | none =>
          rw [hd] at h3
          exact absurd rfl h3
        | some d =>
          rw [hd] at q
          obtain ⟨p9, rfl, _⟩ := q
          rfl
    · have hf : (daysOf os).findIdx? Option.isNone = none := Option.not_isSome_iff_eq_none.mp (by rw [z5]; decide)
      have fl2 : flawOf os = none := by rw [fl, hf]; rfl
      rw [fl2] at k
      have e05 := e04.trans e5
      have hx5 : H5 x = some (.ins C dx []) := e05 _ _ hx
      have hp5 : H5 p = some (.tup xs) := e05 _ _ hp
      have ht5 : H5 t = some (.tup [.int a, .int b]) := e5 _ _ (e4 _ _ ht3)
      have hl5 : H5 l = some (.lst ds) := e5 _ _ hl4
      have xp : p ≠ x := fun z => by
        rw [z, hx5] at hp5
        cases hp5
      have xt : t ≠ x := fun z => by
        rw [z, hx5] at ht5
        cases ht5
      have xl : l ≠ x := fun z => by
        rw [z, hx5] at hl5
        cases hl5
      refine ⟨.ref p, rfl, .ref x, rfl, x, C, dx, [], rfl, hx5, R.cl, R.nr, by decide, ?_⟩
      rw [show putF "_rows" (V.ref p) [] = ([("_rows", V.ref p)] : List (Str × V)) from rfl]
      refine ⟨.ref t, rfl, t, [.int a, .int b], rfl, st_of (by rw [upd_ne xt]; exact ht5), rfl, .int a, [.int b], rfl, .ref x, rfl, x, C, dx, _, rfl, upd_same, R.cl, R.np, (by show 1 < 1000; decide), ?_⟩
      rw [putN (by decide +kernel), show putF "_plates" (V.int a) [] = ([("_plates", V.int a)] : List (Str × V)) from rfl, upd_upd]
      refine ⟨.int b, [], rfl, .ref x, rfl, x, C, dx, _, rfl, upd_same, R.cl, R.na, (by show 2 < 1000; decide), rfl, ?_⟩
      rw [putN (by decide +kernel), putN (by decide +kernel), show putF "_away" (V.int b) [] = ([("_away", V.int b)] : List (Str × V)) from rfl, upd_upd]
      refine ⟨.ref l, rfl, l, ds, rfl, .inl ⟨sq_of (by rw [upd_ne xl]; exact hl5), fun q nq => ?_⟩⟩
      have xq : q ≠ x := fun z => by
        rw [z, upd_same] at nq
        cases nq
      refine ⟨.ref x, rfl, x, C, dx, _, rfl, (upd_ne xq.symm).trans upd_same, R.cl, R.nd, (by show 3 < 1000; decide), ?_⟩
      rw [putN (by decide +kernel), putN (by decide +kernel), putN (by decide +kernel), show putF "days" (V.ref q) [] = ([("days", V.ref q)] : List (Str × V)) from rfl, upd_upd_far xq]
      have nq5 : H5 q = none := by rw [upd_ne xq] at nq; exact nq
      have old : ∀ c o, c ≠ x → H5 c = some o → (upd (upd H5 q (.tup ds)) x (.ins C dx [("_rows", V.ref p), ("_plates", V.int a), ("_away", V.int b), ("days", V.ref q)])) c = some o := fun c o hc e => by
        rw [upd_ne hc, upd_ne (ne_of_none e nq5)]
        exact e
      refine k _ (fun c o hc e => old c o hc (e05 _ _ e)) ⟨dx, q, a, b, ds, upd_same, old _ _ xp hp5, ?_, ?_, h0⟩
      · rw [upd_ne xq, upd_same]
      · refine DV.keep fun p9 dx9 d9 h9 => ?_
        have q9 := e5 _ _ h9
        refine old _ _ (fun z => ?_) q9
        rw [z, hx5] at q9
        cases q9
end
end PW
namespace PW
open PySem PySem.Spec PyProof.Rows L2 Evl
/-! ### what a rule is asked -/
theorem sum_le : ∀ {ss : List Str}, (∀ x ∈ ss, x.length ≤ 1000) → (ss.map (·.length)).sum ≤ ss.length * 1000
  | [], _ => Nat.le_refl _
  | x :: ss, h => by
    have r := sum_le (ss := ss) fun y hy => h y (List.mem_cons_of_mem _ hy)
    have a := h x List.mem_cons_self
    simp only [List.map_cons, List.sum_cons, List.length_cons]
    omega
theorem Good.lens {ss : List Str} {a b : Int} (G : Good ss a b) : ∀ x ∈ ss, x.length ≤ 1000 := fun x hx => (fine_of (G.fine x hx)).1
theorem Good.join {ss : List Str} {a b : Int} (G : Good ss a b) : (ss.map (·.length)).sum + ss.length * (Str.ofString "\n").length ≤ 16777216 := by
  have s := sum_le G.lens
  have g := G.seven
  have one : (Str.ofString "\n").length = 1 := rfl
  rw [one]
  omega
def reprW (ss : List Str) : Str := Str.empty ++ "Rule of " ++ Str.ofString (toString ((ss.length - 1 : Nat) : Int)) ++ " days"
/-- the row with all that a rule holds; g: the answer -/
def spAsk (C : Addr) (g : Addr → List Str → Int → Int → V) : Sp := fun vs H Q _ => ∃ (x dx p q : Addr) (ss : List Str) (a b : Int), vs = [.ref x] ∧ H x = some (.ins C dx (ruleF p q a b)) ∧
  H p = some (.tup (ss.map V.str)) ∧ (∃ ds, H q = some (.tup ds) ∧ ds.length = ss.length - 1) ∧ Good ss a b ∧ ∀ H', Ex H H' → Q (g p ss a b) H'
theorem ruleF_rows (p q : Addr) (a b : Int) : (ruleF p q a b).lookup ("_rows" : Str) = some (V.ref p) := rfl
theorem ruleF_plates (p q : Addr) (a b : Int) : (ruleF p q a b).lookup ("_plates" : Str) = some (V.int a) := by
  have h1 : (("_plates" : Str) == "_rows") = false := by decide +kernel
  simp [ruleF, List.lookup, h1]
theorem ruleF_away (p q : Addr) (a b : Int) : (ruleF p q a b).lookup ("_away" : Str) = some (V.int b) := by
  have h1 : (("_away" : Str) == "_rows") = false := by decide +kernel
  have h3 : (("_away" : Str) == "_plates") = false := by decide +kernel
  simp [ruleF, List.lookup, h1, h3]
theorem ruleF_days (p q : Addr) (a b : Int) : (ruleF p q a b).lookup ("days" : Str) = some (V.ref q) := by
  have h1 : (("days" : Str) == "_rows") = false := by decide +kernel
  have h2 : (("days" : Str) == "_plates") = false := by decide +kernel
  have h3 : (("days" : Str) == "_away") = false := by decide +kernel
  simp [ruleF, List.lookup, h1, h2, h3]
abbrev sRows : Stmt := inClass (top 20) 2
abbrev sText : Stmt := inClass (top 20) 3
abbrev sPlates : Stmt := inClass (top 20) 4
abbrev sAway : Stmt := inClass (top 20) 5
abbrev sLen : Stmt := inClass (top 20) 7
abbrev sStr : Stmt := inClass (top 20) 9
abbrev sRepr : Stmt := inClass (top 20) 10
abbrev sEq : Stmt := inClass (top 20) 8
abbrev sRead : Stmt := inClass (top 20) 1
theorem scRows : FnScope ["self"] ["self"] (defScope sRows) := ⟨rfl, rfl, rfl, by decide +kernel, rfl, by decide +kernel, by decide +kernel⟩
theorem scText : FnScope ["self"] ["self"] (defScope sText) := ⟨rfl, rfl, rfl, by decide +kernel, rfl, by decide +kernel, by decide +kernel⟩
theorem scPlates : FnScope ["self"] ["self"] (defScope sPlates) := ⟨rfl, rfl, rfl, by decide +kernel, rfl, by decide +kernel, by decide +kernel⟩
theorem scAway : FnScope ["self"] ["self"] (defScope sAway) := ⟨rfl, rfl, rfl, by decide +kernel, rfl, by decide +kernel, by decide +kernel⟩
theorem scLen : FnScope ["self"] ["self"] (defScope sLen) := ⟨rfl, rfl, rfl, by decide +kernel, rfl, by decide +kernel, by decide +kernel⟩
theorem scStr : FnScope ["self"] ["self"] (defScope sStr) := ⟨rfl, rfl, rfl, by decide +kernel, rfl, by decide +kernel, by decide +kernel⟩
theorem scRepr : FnScope ["self"] ["self"] (defScope sRepr) := ⟨rfl, rfl, rfl, by decide +kernel, rfl, by decide +kernel, by decide +kernel⟩
theorem scEq : FnScope ["self", "other"] ["self", "other"] (defScope sEq) := ⟨rfl, rfl, rfl, by decide +kernel, rfl, by decide +kernel, by decide +kernel⟩
theorem scRead : FnScope ["cls", "text", "rows"] ["cls", "text"] (defScope sRead) := ⟨rfl, rfl, rfl, by decide +kernel, rfl, by decide +kernel, by decide +kernel⟩
section
variable {P : Program} {w : World} {K : PySem.W.Frag} {mg : Str → Option Value} {base : Heap} {f C CD : Addr} {fd : FuncData} {j : Nat}
theorem ok_Rows (F : Fun K "rows" "Rule.rows" sRows f fd) (B : Blt mg) (R : Ru K C) : FnOk P w K mg base CX0 (j + 1) f fd ["self"] (spAsk C (fun p _ _ _ => .ref p)) := by
  refine F.ok scRows (fun vs H Q E h => ?_) (fun cdv A outer s H vs Q E hr h => ?_)
  · obtain ⟨x, dx, p, q, ss, a, b, rfl, _⟩ := h
    rfl
  · obtain ⟨x, dx, p, q, ss, a, b, rfl, hx, hp, ⟨ds, hq, hds⟩, G, k⟩ := h
    refine ⟨_, pss_one (ps_ret (pe_fld (pv 0) rfl)), ?_⟩
    exact s_ret (ev_fld (ev_var rfl) hx R.cl R.nr (ruleF_rows p q a b)) fun H1 e1 => k H1 e1
theorem ok_Text (F : Fun K "text" "Rule.text" sText f fd) (B : Blt mg) (R : Ru K C) : FnOk P w K mg base CX0 (j + 1) f fd ["self"] (spAsk C (fun _ ss _ _ => .str (Txt.join "\n" ss))) := by
  refine F.ok scText (fun vs H Q E h => ?_) (fun cdv A outer s H vs Q E hr h => ?_)
  · obtain ⟨x, dx, p, q, ss, a, b, rfl, _⟩ := h
    rfl
  · obtain ⟨x, dx, p, q, ss, a, b, rfl, hx, hp, ⟨ds, hq, hds⟩, G, k⟩ := h
    refine ⟨_, pss_one (ps_ret (pe_join pe_str (pe_fld (pv 0) rfl))), ?_⟩
    have gj := G.join
    refine s_ret (v := .str (Txt.join "\n" ss)) (fun H1 e1 Q1 q1 => ⟨⟨_, rfl⟩, (ev_fld (ev_var rfl) hx R.cl R.nr (ruleF_rows p q a b)) H1 e1 _ fun H2 e2 => ⟨_, p, ss, rfl, rfl, .inr (st_of ((e1.trans e2) _ _ hp)), gj, q1 H2 e2⟩⟩) fun H1 e1 => k H1 e1
theorem ok_Plates (F : Fun K "plates" "Rule.plates" sPlates f fd) (B : Blt mg) (R : Ru K C) : FnOk P w K mg base CX0 (j + 1) f fd ["self"] (spAsk C (fun _ _ a _ => .int a)) := by
  refine F.ok scPlates (fun vs H Q E h => ?_) (fun cdv A outer s H vs Q E hr h => ?_)
  · obtain ⟨x, dx, p, q, ss, a, b, rfl, _⟩ := h
    rfl
  · obtain ⟨x, dx, p, q, ss, a, b, rfl, hx, hp, ⟨ds, hq, hds⟩, G, k⟩ := h
    refine ⟨_, pss_one (ps_ret (pe_fld (pv 0) rfl)), ?_⟩
    exact s_ret (ev_fld (ev_var rfl) hx R.cl R.np (ruleF_plates p q a b)) fun H1 e1 => k H1 e1
theorem ok_Away (F : Fun K "away" "Rule.away" sAway f fd) (B : Blt mg) (R : Ru K C) : FnOk P w K mg base CX0 (j + 1) f fd ["self"] (spAsk C (fun _ _ _ b => .int b)) := by
  refine F.ok scAway (fun vs H Q E h => ?_) (fun cdv A outer s H vs Q E hr h => ?_)
  · obtain ⟨x, dx, p, q, ss, a, b, rfl, _⟩ := h
    rfl
  · obtain ⟨x, dx, p, q, ss, a, b, rfl, hx, hp, ⟨ds, hq, hds⟩, G, k⟩ := h
    refine ⟨_, pss_one (ps_ret (pe_fld (pv 0) rfl)), ?_⟩
    exact s_ret (ev_fld (ev_var rfl) hx R.cl R.na (ruleF_away p q a b)) fun H1 e1 => k H1 e1
theorem ok_Len (F : Fun K "__len__" "Rule.__len__" sLen f fd) (B : Blt mg) (R : Ru K C) : FnOk P w K mg base CX0 (j + 1) f fd ["self"] (spAsk C (fun _ ss _ _ => .int ((ss.length - 1 : Nat) : Int))) := by
  refine F.ok scLen (fun vs H Q E h => ?_) (fun cdv A outer s H vs Q E hr h => ?_)
  · obtain ⟨x, dx, p, q, ss, a, b, rfl, _⟩ := h
    rfl
  · obtain ⟨x, dx, p, q, ss, a, b, rfl, hx, hp, ⟨ds, hq, hds⟩, G, k⟩ := h
    refine ⟨_, pss_one (ps_ret (pe_callB call_len_seq (by rfl) B.len PySem.boot_len (pa_cons (pe_fld (pv 0) rfl) pa_nil))), ?_⟩
    exact s_ret (ev_is (ev_lenT (ev_fld (ev_var rfl) hx R.cl R.nd (ruleF_days p q a b)) (st_of hq)) (by rw [hds])) fun H1 e1 => k H1 e1
theorem ok_Str (F : Fun K "__str__" "Rule.__str__" sStr f fd) (B : Blt mg) (R : Ru K C) : FnOk P w K mg base CX0 (j + 1) f fd ["self"] (spAsk C (fun _ ss _ _ => .str (Txt.join "\n" ss))) := by
  refine F.ok scStr (fun vs H Q E h => ?_) (fun cdv A outer s H vs Q E hr h => ?_)
  · obtain ⟨x, dx, p, q, ss, a, b, rfl, _⟩ := h
    rfl
  · obtain ⟨x, dx, p, q, ss, a, b, rfl, hx, hp, ⟨ds, hq, hds⟩, G, k⟩ := h
    refine ⟨_, pss_one (ps_ret (pe_join pe_str (pe_fld (pv 0) rfl))), ?_⟩
    have gj := G.join
    refine s_ret (v := .str (Txt.join "\n" ss)) (fun H1 e1 Q1 q1 => ⟨⟨_, rfl⟩, (ev_fld (ev_var rfl) hx R.cl R.nr (ruleF_rows p q a b)) H1 e1 _ fun H2 e2 => ⟨_, p, ss, rfl, rfl, .inr (st_of ((e1.trans e2) _ _ hp)), gj, q1 H2 e2⟩⟩) fun H1 e1 => k H1 e1
theorem ok_Repr (F : Fun K "__repr__" "Rule.__repr__" sRepr f fd) (B : Blt mg) (R : Ru K C) : FnOk P w K mg base CX0 (j + 1) f fd ["self"] (spAsk C (fun _ ss _ _ => .str (reprW ss))) := by
  refine F.ok scRepr (fun vs H Q E h => ?_) (fun cdv A outer s H vs Q E hr h => ?_)
  · obtain ⟨x, dx, p, q, ss, a, b, rfl, _⟩ := h
    rfl
  · obtain ⟨x, dx, p, q, ss, a, b, rfl, hx, hp, ⟨ds, hq, hds⟩, G, k⟩ := h
    refine ⟨_, pss_one (ps_ret (pe_joined (.cons pe_str (.cons (pe_fmt (pe_callB call_len_seq (by rfl) B.len PySem.boot_len (pa_cons (pe_fld (pv 0) rfl) pa_nil))) (.cons pe_str .nil))))), ?_⟩
    have g7 := G.seven
    have small : (((ss.length - 1 : Nat) : Int)).natAbs.log2 < 1920 := by
      have z : ∀ n, n < 7 → (((n : Nat) : Int)).natAbs.log2 < 1920 := by decide
      exact z _ (by omega)
    have len : ∀ n, n < 7 → (Str.empty ++ "Rule of " ++ Str.ofString (toString ((n : Nat) : Int)) ++ " days").length ≤ 100 ∧ (Str.empty ++ "Rule of " ++ Str.ofString (toString ((n : Nat) : Int))).length ≤ 100 := by decide +kernel
    refine s_ret (v := .str (reprW ss)) (fun H1 e1 Q1 q1 => ⟨_, rfl, by decide, ?_⟩) fun H1 e1 => k H1 e1
    have many : Ev (tCB (rLenS K) (tCons (tFld K (tVar 0) "days") tNil)) [some (V.ref x)] H (.int ((ss.length - 1 : Nat) : Int)) := ev_is (ev_lenT (ev_fld (ev_var rfl) hx R.cl R.nd (ruleF_days p q a b)) (st_of hq)) (by rw [hds])
    show tFmt (tCB (rLenS K) (tCons (tFld K (tVar 0) "days") tNil)) [some (V.ref x)] H1 _
    refine many H1 e1 _ fun H2 e2 => ?_
    exact .inr ⟨_, rfl, small, _, rfl, Nat.le_trans (len (ss.length - 1) (by omega)).2 (by decide), _, rfl, Nat.le_trans (len (ss.length - 1) (by omega)).1 (by decide), q1 H2 e2⟩
def rowsD (ss : List Str) : PyData := .tuple (ss.map PyData.str)
theorem rows_shaped {ss : List Str} (h : OkW ss) : SeqAt.shaped (rowsD ss) = true := strs_shaped h
/-- what isinstance asks of the class Rule -/
structure IsC (K : PySem.W.Frag) (C : Addr) : Prop where
  ha : PySem.W.findIn K (.ref C) "__class__" = some (some (.builtin "object.__class__"))
  hn : PySem.W.specialIn K (.builtin "object.__class__") "__get__" = some (some (.builtin "getset_descriptor.__get__"))
  htk : PySem.W.takesIn K (.builtin "object.__class__") = some true
  hm : PySem.W.mroIn K C (.type "object") = some true
theorem IsC.ty {H : Hp} {x dx : Addr} {fs : List (Str × V)} (I : IsC K C) (R : Ru K C) (h : H x = some (.ins C dx fs)) : TyX K H (.ref x) (.ref C) := .base (.ins h R.cl I.ha I.hn I.htk I.hm)
theorem kit_self : PySem.W.kitOne K (.ref C) (.ref C) = some true := by
  unfold PySem.W.kitOne
  rw [if_pos (by simp)]
def spEq (K : PySem.W.Frag) (C : Addr) : Sp := fun vs H Q _ => ∃ (x dx p q : Addr) (ss : List Str) (a b : Int) (y : V), vs = [.ref x, y] ∧ H x = some (.ins C dx (ruleF p q a b)) ∧
  H p = some (.tup (ss.map V.str)) ∧ Good ss a b ∧
  ((∃ (x2 dx2 p2 q2 : Addr) (ss2 : List Str) (a2 b2 : Int), y = .ref x2 ∧ H x2 = some (.ins C dx2 (ruleF p2 q2 a2 b2)) ∧ H p2 = some (.tup (ss2.map V.str)) ∧ Good ss2 a2 b2 ∧
    ∀ H', Ex H H' → Q (.bl (PyData.eqv (rowsD ss) (rowsD ss2))) H') ∨
   ∃ t, (∀ H1, Ex H H1 → TyX K H1 y t) ∧ PySem.W.kitOne K t (.ref C) = some false ∧ ∀ H', Ex H H' → Q (.bl false) H')
theorem ok_Eq (F : Fun K "__eq__" "Rule.__eq__" sEq f fd) (B : Blt mg) (R : Ru K C) (I : IsC K C) (mC : mg "Rule" = some (.ref C)) : FnOk P w K mg base CX0 (j + 1) f fd ["self", "other"] (spEq K C) := by
  refine F.ok scEq (fun vs H Q E h => ?_) (fun cdv A outer s H vs Q E hr h => ?_)
  · obtain ⟨x, dx, p, q, ss, a, b, y, rfl, _⟩ := h
    rfl
  · obtain ⟨x, dx, p, q, ss, a, b, y, rfl, hx, hp, G, h⟩ := h
    have hu : A.units + 3 + 64 < cLine := hr.units
    refine ⟨_, pss_one (ps_ret (pe_and (pe_callB call_isi (by rfl) B.isi bIsi (pa_cons (pv 1) (pa_cons (pe_glob (v := .ref C) (by rfl) mC rfl) pa_nil))) (pe_one (pe_cmpR (op_eqD hu) (pe_fld (pv 0) rfl) (pe_fld (pv 1) rfl) (nomark _))))), ?_⟩
    rcases h with ⟨x2, dx2, p2, q2, ss2, a2, b2, rfl, hx2, hp2, G2, k⟩ | ⟨t, ty, kt, k⟩
    · refine s_ret (v := .bl (PyData.eqv (rowsD ss) (rowsD ss2))) (ev_is (ev_andV (ev_isi (ev_var rfl) ev_c (.own _) (fun H1 e1 => I.ty R (e1 _ _ hx2)) kit_self)
        (fun _ => ev_eqD (d := rowsD ss) (e := rowsD ss2) (ev_fld (ev_var rfl) hx R.cl R.nr (ruleF_rows p q a b)) (ev_fld (ev_var rfl) hx2 R.cl R.nr (ruleF_rows p2 q2 a2 b2))
          (.tup (st_of hp) (dp_strs ss)) (.tup (st_of hp2) (dp_strs ss2)) (rows_shaped G.oks) (rows_shaped G2.oks))) rfl) fun H1 e1 => k H1 e1
    · exact s_ret (v := .bl false) (ev_andV (b := false) (ev_isi (ev_var rfl) ev_c (.own _) ty kt) (fun z => nomatch z)) fun H1 e1 => k H1 e1
def spInit (C CD : Addr) : Sp := fun vs H Q _ => ∃ (x dx p : Addr) (ss : List Str) (a b : Int), vs = [.ref x, .ref p] ∧ H x = some (.ins C dx []) ∧ H p = some (.tup (ss.map V.str)) ∧ Good ss a b ∧
  ∀ H', (∀ c o, c ≠ x → H c = some o → H' c = some o) → RuleAt H' C CD x ss a b → Q .non H'
/-- a rule that is made with these rows -/
def spStar (C CD : Addr) : Sp := fun vs H Q E => ∃ ws rest, vs = ws ++ rest ∧ ws.length = (["self"] : List Str).length ∧ rest.length ≤ sizeLine ∧ ∀ p, H p = none → spInit C CD (ws ++ [V.ref p]) (upd H p (.tup rest)) Q E
theorem star_made {H1 : Hp} {x dx : Addr} {ss : List Str} {a b : Int} {Q : VK} {E : XK} (G : Good ss a b) (hx : H1 x = none) (hdx : H1 dx = none) (ne : dx ≠ x)
    (q : ∀ H', Ex H1 H' → RuleAt H' C CD x ss a b → Q .non H') : spStar C CD (V.ref x :: ss.map V.str) (upd (upd H1 dx (.own x)) x (.ins C dx [])) Q E := by
  have g7 := G.seven
  refine ⟨[.ref x], ss.map V.str, rfl, rfl, ?_, fun p hp => ⟨x, dx, p, ss, a, b, rfl, ?_, upd_same, G, fun H' keep r => q H' (fun c o e => ?_) r⟩⟩
  · rw [List.length_map]
    exact Nat.le_trans g7 (by decide)
  · have xp : x ≠ p := fun z => by
      rw [← z, upd_same] at hp
      cases hp
    rw [upd_ne xp, upd_same]
  · have c1 : c ≠ x := ne_of_none e hx
    have c2 : c ≠ dx := ne_of_none e hdx
    have c3 : c ≠ p := fun z => by
      rw [← z, upd_ne c1, upd_ne c2, e] at hp
      cases hp
    refine keep c o c1 ?_
    rw [upd_ne c3, upd_ne c1, upd_ne c2]
    exact e
theorem bind_map_some {os : List Str} : ((os.map some).drop 1).map (·.bind dayOf) = (os.drop 1).map dayOf := by
  rw [← List.map_drop, List.map_map]
  rfl
theorem Good.flaw {ss : List Str} {a b : Int} (G : Good ss a b) : flawOf (ss.map some) = none := by
  have g2 := G.two
  have g7 := G.seven
  have h0 : ((ss.map some).getD 0 none).bind firstOf = some (a, b) := by
    have e : (ss.map some).getD 0 none = some (ss.getD 0 "") := by
      rw [List.getD_eq_getElem?_getD, List.getElem?_map, List.getElem?_eq_getElem (by omega), List.getD_eq_getElem?_getD, List.getElem?_eq_getElem (by omega)]
      rfl
    rw [e]
    exact G.head
  have hd : (daysOf (ss.map some)).findIdx? Option.isNone = none := by
    refine List.findIdx?_eq_none_iff.mpr fun o ho => ?_
    rw [daysOf, bind_map_some] at ho
    obtain ⟨s, hs, rfl⟩ := List.mem_map.mp ho
    obtain ⟨i, hi⟩ := List.mem_iff_getElem?.mp hs
    rw [List.getElem?_drop] at hi
    have hlt := (List.getElem?_eq_some_iff.mp hi).1
    have z := G.days (1 + i) (by omega) hlt
    rw [List.getD_eq_getElem?_getD, hi] at z
    have z' : (dayOf s).isSome = true := z
    cases q : dayOf s with
    | none => rw [q] at z'; cases z'
    | some d => rfl
  unfold flawOf
  rw [if_pos (by rw [List.length_map]; omega), h0, hd]
  rfl
theorem Good.rowV {K : PySem.W.Frag} {H : Hp} {ss : List Str} {a b : Int} (G : Good ss a b) (i : Nat) (v : V) (h : (ss.map V.str)[i]? = some v) : RowV K H v ((ss.map some).getD i none) := by
  rw [List.getElem?_map] at h
  cases hq : ss[i]? with
  | none =>
    rw [hq] at h
    cases h
  | some y =>
    rw [hq] at h
    obtain rfl := Option.some.inj h
    have e : (ss.map some).getD i none = some y := by
      rw [List.getD_eq_getElem?_getD, List.getElem?_map, hq]
      rfl
    rw [e]
    have f := fine_of (G.fine y (List.mem_of_getElem? hq))
    exact ⟨rfl, f.1, f.2.1, f.2.2⟩
def spStarX (K : PySem.W.Frag) (C CR CD : Addr) : Sp := fun vs H Q E => ∃ ws rest, vs = ws ++ rest ∧ ws.length = (["self"] : List Str).length ∧ rest.length ≤ sizeLine ∧ ∀ p, H p = none → spInitX K C CR CD (ws ++ [V.ref p]) (upd H p (.tup rest)) Q E
theorem init_of {CR : Addr} {vs : List V} {H : Hp} {Q : VK} {E : XK} (h : spInit C CD vs H Q E) : spInitX K C CR CD vs H Q E0 := by
  obtain ⟨x, dx, p, ss, a, b, rfl, hx, hp, G, k⟩ := h
  have g7 := G.seven
  refine ⟨x, dx, p, ss.map V.str, ss.map some, rfl, hx, hp, by rw [List.length_map]; omega, by rw [List.length_map, List.length_map], G.rowV, ?_⟩
  rw [G.flaw]
  rintro H' keep ⟨dx', q, a', b', ds, r1, r2, r3, r4, r5⟩
  have h0 : ((ss.map some).getD 0 none).bind firstOf = some (a, b) := by
    have g2 := G.two
    have e : (ss.map some).getD 0 none = some (ss.getD 0 "") := by
      rw [List.getD_eq_getElem?_getD, List.getElem?_map, List.getElem?_eq_getElem (by omega), List.getD_eq_getElem?_getD, List.getElem?_eq_getElem (by omega)]
      rfl
    rw [e]
    exact G.head
  rw [h0] at r5
  obtain ⟨rfl, rfl⟩ := Prod.mk.inj (Option.some.inj r5)
  rw [daysOf, bind_map_some] at r4
  exact k H' keep ⟨dx', p, q, ds, r1, r2, r3, r4⟩
theorem ok_init {fn fe fc ft fy ff fI CR fR f : Addr} {nd ed cd td yd qd dI dR fd : FuncData} (F : Fun K "__init__" "Rule.__init__" sInit f fd) (B : Blt mg) (L : Lim mg) (R : Ru K C) (Z : Texts K mg fn fe fc ft fy ff CD fI nd ed cd td yd qd dI) (D : Bad K mg CR fR dR) :
    FnR P w K mg base CX0 5 f (spStar C CD) := noN_R (ok_initX F B L R Z D) fun vs H Q E h => by
  obtain ⟨ws, rest, rfl, h1, h2, h3⟩ := h
  exact ⟨ws, rest, rfl, h1, h2, fun p hp => init_of (h3 p hp)⟩
def spRead (C CD : Addr) : Sp := fun vs H Q _ => ∃ (s : Str) (a b : Int), vs = [.ref C, .str s] ∧ s.length ≤ 100000 ∧ Good (Txt.split s "\n") a b ∧
  ∀ x H', H x = none → Ex H H' → RuleAt H' C CD x (Txt.split s "\n") a b → Q (.ref x) H'
theorem el_split2 {σ : L2.St} {H : Hp} {te tb : TE} {a b : Str} (ha : Ev te σ H (.str a)) (hb : Ev tb σ H (.str b)) (hz : a.length ≤ 100000) (h : (b.length == 0) = false) :
    EvL (tM1 (fun x xs H Q => ∃ a b, x = .str a ∧ xs = [.str b] ∧ (b.length == 0) = false ∧ a.length + 2 ≤ sizeLine ∧ rNewStrs (Txt.split a b) H Q) te tb) σ H ((Txt.split a b).map V.str) := fun H1 e Q q =>
  ha H1 e _ fun H2 e2 => ⟨⟨a, rfl⟩, hb H2 (e.trans e2) _ fun H3 e3 => ⟨a, b, rfl, rfl, h, Nat.le_trans (show a.length + 2 ≤ 100002 by omega) (by decide), fun p hp =>
    q p _ (fresh_back (e2.trans e3) hp) ((e2.trans e3).trans (Ex.new hp)) upd_same⟩⟩
theorem ok_Read {fI CR : Addr} (F : Fun K "read" "Rule.read" sRead f fd) (B : Blt mg) (M : Mk K C fI) (GI : FnR P w K mg base CX0 (j + 1) fI (spStar C CD)) (mR : mg "InvalidRows" = some (.ref CR)) :
    FnOk P w K mg base CX0 (j + 3) f fd ["cls", "text"] (spRead C CD) := by
  refine F.ok scRead (fun vs H Q E h => ?_) (fun cdv A outer st H vs Q E hr h => ?_)
  · obtain ⟨s, a, b, rfl, _⟩ := h
    rfl
  · obtain ⟨s, a, b, rfl, hz, G, k⟩ := h
    refine ⟨_, pss_cons (ps_if (pt_not (pt_val (pe_callB call_isi (by rfl) B.isi bIsi (pa_cons (pv 1) (pa_cons (pe_bltn (v := .ty "str") (by rfl) B.str bStr rfl) pa_nil))))) (pss_one ps_never) pss_nil)
      (pss_cons (ps_set (i := 2) scRead.nd rfl (.inl rfl) (pe_split (pv 1) pe_str))
      (pss_one (ps_try_only rfl rfl ⟨rfl, by decide, .inl mR⟩ takes0 (fun W pn xe tk _ => pss_one (ps_ret (show PE ((cxOf CX0 P w K mg base ["cls", "text", "rows"] "Rule.read" (defScope sRead) f cdv A outer st H E).nox.tr pn xe) _ (tMakeS K C (spStar C CD) E0 (tVar 0) (tVar 2)) from pe_makeS (X := ((cxOf CX0 P w K mg base ["cls", "text", "rows"] "Rule.read" (defScope sRead) f cdv A outer st H E).nox.tr pn xe)) M GI hr pass0 (pv 0) (pv 2)))) (fun a oe cls d pn _ _ => pss_one ps_never)))), ?_⟩
    refine q_when (b := false) (et_is (et_not (et_B (ev_isi (ev_var rfl) ev_c (.ty _) (fun _ _ => .base (.str s)) kit_str))) rfl) (fun z => nomatch z) fun _ H1 e1 => ?_
    refine q_asgL (el_split2 (ev_var rfl) ev_c hz rfl) fun p H2 n2 e2 h2 => ?_
    exact ⟨.ref C, rfl, rfl, .ref p, rfl, p, _, rfl, .inr (sq_of h2), fun x dx hx hdx ne => star_made G hx hdx ne fun H' e' r => ⟨rfl, k x H' (fresh_back (e1.trans e2) hx) ((e1.trans e2).trans e') r⟩⟩
end
end PW
namespace PW
open PySem PySem.Spec PyProof.Rows L2 Evl
/-! ### the drawn rows -/
def cat (a b : Str) : Str := a ++ b
def mkTake (l m : Int) (wh k : Str) : Str := "take " ++ txt l ++ " to " ++ txt m ++ " back " ++ wh ++ " " ++ k
def wheresW : List Str := ["top", "bottom", "under 1", "under 2", "under " ++ txt 1, "under " ++ txt 2, "under " ++ txt 3, "under " ++ txt 4]
def keptW : List Str := ["kept", "turned"]
def takesW : List Str := ([0, 1, 2] : List Int).flatMap fun l => ([0, 1, 2] : List Int).flatMap fun d => wheresW.flatMap fun wh => keptW.map fun k => mkTake l (l + d) wh k
def cutsW : List Str := ([1, 2, 3] : List Int).map fun n => "cut " ++ txt n
def daysW : List Str := takesW ++ ((["turn", "rest"] : List Str) ++ cutsW) ++ (["take 0 to 6 back under 9 turned", "take 6 to 6 back top kept", "cut 9", "cut 1"] : List Str)
def mkHead (m : Int) (a : Str) : Str := "plates " ++ txt m ++ " away " ++ a
def headsW : List Str := ([2, 3, 4] : List Int).flatMap (fun m => [mkHead m "0", mkHead m "1"]) ++ (["plates 10 away 2", "plates 2 away 0", "plates 2 away 1"] : List Str)
def noNl (s : Str) : Bool := !(TL.tl s).contains 10
def headOk (s : Str) : Bool := match firstOf s with
  | some (a, b) => (PySem.intText? ((Txt.split s " ").getD 1 "") == some a) && (PySem.intText? ((Txt.split s " ").getD 3 "") == some b) && decide (a.natAbs < 100) && decide (b.natAbs < 100) && decide ((Txt.split s " ").length = 4)
  | none => false
theorem days_ok : daysW.all (fun s => isDay s && fineW s && noNl s && decide (s.length ≤ 100)) = true := by decide +kernel
theorem heads_ok : headsW.all (fun s => headOk s && fineW s && noNl s && decide (s.length ≤ 100)) = true := by decide +kernel
/-- rows of a rule as they are drawn -/
structure Rows (ss : List Str) : Prop where
  two : 2 ≤ ss.length
  seven : ss.length ≤ 7
  head : ss.getD 0 "" ∈ headsW
  days : ∀ i, 1 ≤ i → i < ss.length → ss.getD i "" ∈ daysW
theorem Rows.good {ss : List Str} (r : Rows ss) : ∃ a b, Good ss a b := by
  have h := List.all_eq_true.mp heads_ok _ r.head
  simp only [Bool.and_eq_true] at h
  obtain ⟨⟨⟨h1, h2⟩, h3⟩, h4⟩ := h
  have hd : ∀ i, 1 ≤ i → i < ss.length → isDay (ss.getD i "") = true ∧ fineW (ss.getD i "") = true := fun i h1 h2 => by
    have z := List.all_eq_true.mp days_ok _ (r.days i h1 h2)
    simp only [Bool.and_eq_true] at z
    exact ⟨z.1.1.1, z.1.1.2⟩
  unfold headOk at h1
  cases hf : firstOf (ss.getD 0 "") with
  | none =>
    rw [hf] at h1
    cases h1
  | some ab =>
    obtain ⟨a, b⟩ := ab
    refine ⟨a, b, r.two, r.seven, hf, fun x hx => ?_, fun i i1 i2 => (hd i i1 i2).1⟩
    obtain ⟨i, hi, rfl⟩ := List.mem_iff_getElem.mp hx
    have e : ss[i] = ss.getD i "" := by simp [List.getElem?_eq_getElem hi]
    rw [e]
    by_cases z : i = 0
    · subst z
      exact h2
    · exact (hd i (by omega) hi).2
def SpringAt (H : Hp) (p : Addr) : Prop := ∃ l m t : Int, H p = some (.lst [.int l, .int m, .int t])
def spSpring (K : PySem.W.Frag) : Sp := fun vs H Q _ => ∃ (a : Addr) (ns : List Int) (k : Nat), vs = [.ref a, .int k] ∧
  SqL K H a (ns.map V.int) ∧ ns.length ≤ 63 ∧ k ≤ 1000 ∧
  ∀ p H', H p = none → Ex H H' → SpringAt H' p → Q (.ref p) H'
def spDraw : Sp := fun vs H Q _ => ∃ (p : Addr) (n : Int), vs = [.ref p, .int n] ∧ 0 < n ∧ n < 1000000 ∧ SpringAt H p ∧
  ∀ (d : Int) H', 0 ≤ d → d < n → But p H H' → SpringAt H' p → Q (.int d) H'
def spOf (K : PySem.W.Frag) : Sp := fun vs H Q _ => ∃ (p a : Addr) (xs : List V), vs = [.ref p, .ref a] ∧ SqL K H a xs ∧ a ≠ p ∧
  0 < xs.length ∧ xs.length < 1000000 ∧ SpringAt H p ∧
  ∀ x H', x ∈ xs → But p H H' → SpringAt H' p → Q x H'

/-! ### the law's own draws: _law_spring, _law_draw, _law_of -/
abbrev sSpring : Stmt := top 22
abbrev sDraw : Stmt := top 23
abbrev sOf : Stmt := top 24
theorem scSpring : FnScope ["_law_cells", "_law_k", "_law_cell", "_law_mixed", "_law_number"] ["_law_cells", "_law_k"] (defScope sSpring) :=
  ⟨rfl, rfl, rfl, by decide +kernel, rfl, by decide +kernel, by decide +kernel⟩
theorem scDraw : FnScope ["_law_spring_here", "_law_size", "_law_digit", "_law_far", "_law_mixed"] ["_law_spring_here", "_law_size"] (defScope sDraw) :=
  ⟨rfl, rfl, rfl, by decide +kernel, rfl, by decide +kernel, by decide +kernel⟩
theorem scOf : FnScope ["_law_spring_here", "_law_menu"] ["_law_spring_here", "_law_menu"] (defScope sOf) :=
  ⟨rfl, rfl, rfl, by decide +kernel, rfl, by decide +kernel, by decide +kernel⟩
section
variable {P : Program} {w : World} {K : PySem.W.Frag} {mg : Str → Option Value} {base : Heap}
theorem ok_spring {f : Addr} {fd : FuncData} {j : Nat} (F : Fun K "_law_spring" "_law_spring" sSpring f fd) (B : Blt mg) :
    FnOk P w K mg base CX0 (j + 1) f fd ["_law_cells", "_law_k"] (spSpring K) := by
  refine F.ok scSpring (fun vs H Q E h => ?_) (fun cdv A outer s H vs Q E hr h => ?_)
  · obtain ⟨a, ns, k, rfl, _⟩ := h
    rfl
  · obtain ⟨a, ns, k, rfl, hS, hlen, hk, k0⟩ := h
    refine ⟨_, pss_cons (ps_set (i := 2) scSpring.nd rfl (.inl rfl) (pe_ifExp
        (pt_cmpR op_lt (pv 1) (pe_callB call_len_seq (by rfl) B.len PySem.boot_len (pa_cons (pv 0) pa_nil)) (nomark _))
        (pe_ix ix_list (pv 0) (pv 1) (fun _ _ => rfl)) (pe_op op_add (pe_op op_mul pe_int (pv 1)) pe_int)))
      (pss_cons (ps_set (i := 3) scSpring.nd rfl (.inl rfl) (pe_op op_add pe_int (pe_op op_mul pe_int (pv 1))))
      (pss_cons (ps_for PassesOwn.never rfl
        (pi_list (pe_op op_cat (pe_slice sl_list (pv 0) po_none (po_some pe_int)) (pe_lst (pa_cons (pv 2) pa_nil))))
        (pg_name (i := 4) scSpring.nd rfl (.inl rfl))
        (pss_one (ps_set (i := 3) scSpring.nd rfl (.inl rfl) (pe_op op_mod
          (pe_callTy call_int1 (by rfl) B.int PyProof.Rows.Boot.int (pa_cons (pe_op op_add (pe_op op_add (pe_op op_mul (pv 3) pe_int)
            (pe_callTy call_int1 (by rfl) B.int PyProof.Rows.Boot.int (pa_cons (pv 4) pa_nil))) (pe_op op_mul pe_int (pv 1))) pa_nil)) pe_int))))
      (pss_one (ps_ret (pe_lst (pa_cons (pe_ifExp (pw_or (pt_cmpR op_lt (pv 2) pe_int (nomark _))
          (pw_or1 (pt_cmpR op_ge (pv 2) (pe_op op_pow pe_int pe_int) (nomark _)))).pt
          (pe_callB call_abs (by rfl) B.abs (by decide +kernel) (pa_cons (pv 2) pa_nil)) pe_int) (pa_cons (pv 3) (pa_cons pe_int pa_nil)))))))), ?_⟩
    -- _law_cell
    obtain ⟨cell, hcell⟩ : ∃ c : Int, ∀ Q : VK, Q (.int c) H → (tIf (tTest (tOp (rI0 fun i j => .bl (decide (i < j))) (tVar 1)
        (tCB (fun xs H Q => ∃ p ys, xs = [.ref p] ∧ (SqL K H p ys ∨ SqT K H p ys) ∧ Q (.int ys.length) H) (tCons (tVar 0) tNil))))
        (tOp (rIxL K) (tVar 0) (tVar 1)) (tOp (rI0 fun i j => .int (i + j)) (tOp (rI CMul fun i j => .int (i * j)) (tC (.int 7)) (tVar 1)) (tC (.int 2))))
        [some (.ref a), some (.int k), none, none, none] H Q := by
      by_cases hkn : k < ns.length
      · refine ⟨ns[k], fun Q q => ?_⟩
        refine ⟨.int k, rfl, .ref a, rfl, a, _, rfl, .inl hS, _, _, rfl, rfl, _, rfl, ?_⟩
        rw [decide_eq_true (by rw [List.length_map]; omega)]
        refine iteT ⟨.ref a, rfl, .int k, rfl, a, _, (k : Int), .int ns[k], rfl, rfl, hS, atI_nat ?_, q⟩
        rw [List.getElem?_map, List.getElem?_eq_getElem hkn]
        rfl
      · refine ⟨7 * (k : Int) + 2, fun Q q => ?_⟩
        refine ⟨.int k, rfl, .ref a, rfl, a, _, rfl, .inl hS, _, _, rfl, rfl, _, rfl, ?_⟩
        rw [decide_eq_false (by rw [List.length_map]; omega)]
        exact iteF ⟨.int k, rfl, 7, (k : Int), rfl, rfl, .inl ⟨by decide, by decide⟩, _, _, rfl, rfl, q⟩
    refine hcell _ ?_
    -- _law_mixed
    refine ⟨.int k, rfl, 7919, (k : Int), rfl, rfl, .inl ⟨by decide, by decide⟩, _, _, rfl, rfl, ?_⟩
    -- the loop
    refine ⟨.ref a, rfl, 8, rfl, a, ns.map V.int, rfl, hS, fun p1 n1 => ?_⟩
    refine ⟨.int cell, rfl, by show 1 ≤ sizeLine; decide, fun p2 n2 => ?_⟩
    have e1 : Ex H (upd H p1 (.lst (cutV (ns.map V.int) none (some 8)))) := Ex.new n1
    have e2 := Ex.new (o := .lst [V.int cell]) n2
    obtain ⟨ms, hms, hml⟩ : ∃ ms : List Int, cutV (ns.map V.int) none (some 8) = ms.map V.int ∧ ms.length ≤ 8 := by
      refine ⟨ns.take 8, ?_, by rw [List.length_take]; omega⟩
      unfold cutV
      rw [show HT.sIx (ns.map V.int).length (ns.map V.int).length (some 8) = min 8 (ns.map V.int).length from HT.sIx_nat _ _ 8, HT.sIx_none]
      rw [List.drop_zero, Nat.sub_zero, List.map_take]
      apply List.ext_getElem?
      intro i
      simp only [List.getElem?_take]
      by_cases hi : i < 8
      · by_cases hj : i < (ns.map V.int).length
        · rw [if_pos (by omega), if_pos hi]
        · rw [if_neg (by omega), if_pos hi]
          exact (List.getElem?_eq_none (by omega)).symm
      · rw [if_neg (by omega), if_neg hi]
    refine ⟨p1, p2, _, [.int cell], rfl, rfl, e2 _ _ upd_same, upd_same, ?_, fun p3 n3 => ?_⟩
    · rw [hms, List.length_map]
      show ms.length + 1 ≤ sizeLine
      exact Nat.le_trans (by omega) (show 9 ≤ sizeLine by decide)
    have e3 := Ex.new (o := .lst (cutV (ns.map V.int) none (some 8) ++ [V.int cell])) n3
    have eH := (e1.trans e2).trans e3
    have eL : cutV (ns.map V.int) none (some 8) ++ [V.int cell] = (ms ++ [cell]).map V.int := by rw [hms]; simp
    have h3 : (upd (upd (upd H p1 (.lst (cutV (ns.map V.int) none (some 8)))) p2 (.lst [.int cell])) p3
        (.lst (cutV (ns.map V.int) none (some 8) ++ [V.int cell]))) p3 = some (.lst ((ms ++ [cell]).map V.int)) := by rw [← eL]; exact upd_same
    refine ⟨p3, rfl, ⟨_, sq_of h3⟩, for_list (K := K) (a := p3) (xs := (ms ++ [cell]).map V.int)
      (fun i σ H' => ∃ (m : Int) (y : Option V), σ = [some (.ref a), some (.int k), some (.int cell), some (.int m), y] ∧ Ex H H' ∧
        H' p3 = some (.lst ((ms ++ [cell]).map V.int))) ⟨_, none, rfl, eH, h3⟩ (fun i σ H' _ ⟨_, _, _, _, q⟩ => sq_of q) ?_ ?_⟩
    · rintro i y σ H' hi ⟨m, yo, rfl, ex, q⟩
      obtain ⟨z, rfl⟩ : ∃ z, y = V.int z := by
        rw [List.getElem?_map] at hi
        obtain ⟨z, _, rfl⟩ := Option.map_eq_some_iff.mp hi
        exact ⟨z, rfl⟩
      refine ⟨.int m, rfl, m, 48271, rfl, rfl, .inr ⟨by decide, by decide⟩, ?_⟩
      refine ⟨.int z, rfl, .inl ⟨z, rfl, _, _, rfl, rfl, ?_⟩⟩
      refine ⟨.int k, rfl, 11, (k : Int), rfl, rfl, .inl ⟨by decide, by decide⟩, _, _, rfl, rfl, .inl ⟨_, rfl, ?_⟩⟩
      refine ⟨_, 2147483647, rfl, rfl, (by show (0 : Int) < 2147483647; decide), ?_⟩
      exact ⟨_, _, rfl, ex, q⟩
    · rintro σ H' ⟨m, yo, rfl, ex, q⟩
      -- return [.., .., 0]
      have done : ∀ (l : Int), ∀ p, H' p = none → Q (.ref p) (upd H' p (.lst [.int l, .int m, .int 0])) := fun l p n =>
        k0 p _ (fresh_back ex n) (ex.trans (Ex.new n)) ⟨l, m, 0, upd_same⟩
      have abs_ : ∀ c : Bool, c = true → ∃ i, [V.int cell] = [.int i] ∧ True := fun _ _ => ⟨_, rfl, trivial⟩
      refine ⟨.int cell, rfl, cell, 0, rfl, rfl, _, rfl, ?_⟩
      by_cases h1 : cell < 0
      · rw [decide_eq_true h1]
        exact ⟨.int cell, rfl, cell, rfl, .int m, rfl, by show 3 ≤ sizeLine; decide, done _⟩
      · rw [decide_eq_false h1]
        refine iteF ⟨.int cell, rfl, 10, 18, rfl, rfl, ⟨by decide, by decide, by decide⟩, cell, _, rfl, rfl, _, rfl, ?_⟩
        by_cases h2 : (10 : Int) ^ 18 ≤ cell
        · rw [show decide ((10 : Int) ^ Int.toNat 18 ≤ cell) = true from decide_eq_true h2]
          exact ⟨.int cell, rfl, cell, rfl, .int m, rfl, by show 3 ≤ sizeLine; decide, done _⟩
        · rw [show decide ((10 : Int) ^ Int.toNat 18 ≤ cell) = false from decide_eq_false h2]
          exact ⟨.int m, rfl, by show 3 ≤ sizeLine; decide, done 0⟩

theorem ok_draw {f : Addr} {fd : FuncData} {j : Nat} (F : Fun K "_law_draw" "_law_draw" sDraw f fd) (B : Blt mg) :
    FnOk P w K mg base CX0 (j + 1) f fd ["_law_spring_here", "_law_size"] spDraw := by
  refine F.ok scDraw (fun vs H Q E h => ?_) (fun cdv A outer s H vs Q E hr h => ?_)
  · obtain ⟨p, n, rfl, _⟩ := h
    rfl
  · obtain ⟨p, n, rfl, n0, n1, ⟨l, m, t, hp⟩, k⟩ := h
    refine ⟨_, pss_cons (ps_asg (pe_op op_add (pe_ix ix_list (pv 0) pe_int (fun _ _ => rfl)) pe_int) (pg_sub (pv 0) pe_int set_list))
      (pss_cons (ps_asg (pe_op op_mod (pe_callTy call_int1 (by rfl) B.int PyProof.Rows.Boot.int (pa_cons (pe_op op_add (pe_op op_add
          (pe_op op_mul (pe_ix ix_list (pv 0) pe_int (fun _ _ => rfl)) pe_int)
          (pe_op op_mul pe_int (pe_ix ix_list (pv 0) pe_int (fun _ _ => rfl)))) pe_int) pa_nil)) pe_int) (pg_sub (pv 0) pe_int set_list))
      (pss_cons (ps_if (pt_cmpR op_gt (pe_ix ix_list (pv 0) pe_int (fun _ _ => rfl)) pe_int (nomark _))
        (pss_cons (ps_asg (pe_callB call_divmod (by rfl) B.divmod (by decide +kernel) (pa_cons (pe_ix ix_list (pv 0) pe_int (fun _ _ => rfl)) (pa_cons (pv 1) pa_nil)))
            (pg_tup rfl (pgs_cons (pg_sub (pv 0) pe_int set_list) (pgs_cons (pg_name (i := 2) scDraw.nd rfl (.inl rfl)) pgs_nil))))
          (pss_one (ps_ret (pv 2)))) pss_nil)
      (pss_cons (ps_set (i := 3) scDraw.nd rfl (.inl rfl) (pe_op op_add (pe_ix ix_list (pv 0) pe_int (fun _ _ => rfl)) pe_int))
      (pss_cons (ps_set (i := 4) scDraw.nd rfl (.inl rfl) (pe_op op_mod (pe_callTy call_int1 (by rfl) B.int PyProof.Rows.Boot.int
          (pa_cons (pe_op op_add (pe_op op_mul (pv 3) (pe_ix ix_list (pv 0) pe_int (fun _ _ => rfl))) (pe_ix ix_list (pv 0) pe_int (fun _ _ => rfl))) pa_nil)) pe_int))
      (pss_one (ps_ret (pe_op op_mod (pe_callTy call_int1 (by rfl) B.int PyProof.Rows.Boot.int (pa_cons (pe_op op_fdiv (pv 4) pe_int) pa_nil)) (pv 1)))))))), ?_⟩
    -- item 2
    refine ⟨.ref p, rfl, p, _, 2, .int t, rfl, rfl, sq_of hp, rfl, t, 1, rfl, rfl, .ref p, rfl, p, _, 2, 2, rfl, rfl, hp, rfl, ?_⟩
    have h1 : (upd H p (.lst ([V.int l, V.int m, V.int t].set 2 (.int (t + 1))))) p = some (.lst [.int l, .int m, .int (t + 1)]) := upd_same
    -- item 1
    refine ⟨.ref p, rfl, p, _, 1, .int m, rfl, rfl, sq_of h1, rfl, m, 69621, rfl, rfl, .inr ⟨by decide, by decide⟩, ?_⟩
    refine ⟨.ref p, rfl, p, _, 2, .int (t + 1), rfl, rfl, sq_of h1, rfl, 40503, t + 1, rfl, rfl, .inl ⟨by decide, by decide⟩, _, _, rfl, rfl, _, 1, rfl, rfl, .inl ⟨_, rfl, ?_⟩⟩
    refine ⟨_, 2147483647, rfl, rfl, (by show (0 : Int) < 2147483647; decide), .ref p, rfl, p, _, 1, 1, rfl, rfl, h1, rfl, ?_⟩
    obtain ⟨m', hm⟩ : ∃ m', m' = (m * 69621 + 40503 * (t + 1) + 1) % 2147483647 := ⟨_, rfl⟩
    have hm0 : 0 ≤ m' := hm ▸ Int.emod_nonneg _ (by decide)
    have hm1 : m' < 2147483647 := hm ▸ Int.emod_lt_of_pos _ (by decide)
    obtain ⟨H2, hH2⟩ : ∃ H2, H2 = upd (upd H p (.lst ([V.int l, V.int m, V.int t].set 2 (.int (t + 1))))) p
      (.lst ([V.int l, V.int m, V.int (t + 1)].set 1 (.int ((m * 69621 + 40503 * (t + 1) + 1) % 2147483647)))) := ⟨_, rfl⟩
    have h2 : H2 p = some (.lst [.int l, .int m', .int (t + 1)]) := by rw [hH2, hm]; exact upd_same
    have but2 : But p H H2 := fun b o ne e => by rw [hH2]; exact (upd_ne ne).trans ((upd_ne ne).trans e)
    refine hH2 ▸ ?_
    -- if
    refine ⟨.ref p, rfl, p, _, 0, .int l, rfl, rfl, sq_of h2, rfl, l, 0, rfl, rfl, _, rfl, ?_⟩
    refine ite2 (fun _ => ?_) (fun _ => ?_)
    · refine ⟨.ref p, rfl, p, _, 0, .int l, rfl, rfl, sq_of h2, rfl, .int n, rfl, l, n, rfl, ⟨n0, by omega⟩, fun q nq => ?_⟩
      have nqp : p ≠ q := ne_of_none h2 nq
      have h3 : (upd H2 q (.tup [.int (l / n), .int (l % n)])) p = some (.lst [.int l, .int m', .int (t + 1)]) :=
        (upd_ne nqp).trans h2
      refine ⟨q, [.int (l / n), .int (l % n)], rfl, st_of upd_same, rfl, .int (l / n), [.int (l % n)], rfl, .ref p, rfl, p, _, 0, 0, rfl, rfl, h3, rfl, ?_⟩
      refine ⟨.int (l % n), [], rfl, rfl, ?_⟩
      refine ⟨.int (l % n), rfl, k (l % n) _ (Int.emod_nonneg _ (by omega)) (Int.emod_lt_of_pos _ n0) (fun b o ne e => ?_) ⟨l / n, m', t + 1, upd_same⟩⟩
      have nb : b ≠ q := ne_of_none (but2 b o ne e) nq
      exact (upd_ne ne).trans ((upd_ne nb).trans (but2 b o ne e))
    · refine ⟨.ref p, rfl, p, _, 1, .int m', rfl, rfl, sq_of h2, rfl, m', 12345, rfl, rfl, ?_⟩
      refine ⟨.int (m' + 12345), rfl, .ref p, rfl, p, _, 1, .int m', rfl, rfl, sq_of h2, rfl, m' + 12345, m', rfl, rfl, .inr ⟨by omega, by omega⟩, ?_⟩
      refine ⟨.ref p, rfl, p, _, 2, .int (t + 1), rfl, rfl, sq_of h2, rfl, _, t + 1, rfl, rfl, .inl ⟨_, rfl, ?_⟩⟩
      refine ⟨_, 2147483629, rfl, rfl, (by show (0 : Int) < 2147483629; decide), ?_⟩
      refine ⟨_, rfl, _, 256, rfl, rfl, ⟨by decide, by decide⟩, .inl ⟨_, rfl, .int n, rfl, _, n, rfl, rfl, n0, ?_⟩⟩
      exact k _ _ (Int.emod_nonneg _ (by omega)) (Int.emod_lt_of_pos _ n0) but2 ⟨l, m', t + 1, h2⟩
theorem ok_of {f fD : Addr} {fd fdD : FuncData} {j : Nat} (F : Fun K "_law_of" "_law_of" sOf f fd) (B : Blt mg)
    (FD : Fun K "_law_draw" "_law_draw" sDraw fD fdD) (bD : Binds K fdD ["_law_spring_here", "_law_size"] []) (gD : mg "_law_draw" = some (.ref fD)) :
    FnOk P w K mg base CX0 (j + 2) f fd ["_law_spring_here", "_law_menu"] (spOf K) := by
  have GD : FnOk P w K mg base CX0 (j + 1) fD fdD ["_law_spring_here", "_law_size"] spDraw := ok_draw FD B
  refine F.ok scOf (fun vs H Q E h => ?_) (fun cdv A outer s H vs Q E hr h => ?_)
  · obtain ⟨p, a, xs, rfl, _⟩ := h
    rfl
  · obtain ⟨p, a, xs, rfl, hS, ne, l0, l1, sp, k⟩ := h
    refine ⟨_, pss_one (ps_ret (pe_ix ix_list (pv 1) (pe_call GD hr (by rfl) gD FD.kp bD .nil pass0 (pa_cons (pv 0) (pa_cons
      (pe_callB call_len_seq (by rfl) B.len PySem.boot_len (pa_cons (pv 1) pa_nil)) pa_nil))) (fun _ _ => rfl))), ?_⟩
    refine ⟨.ref a, rfl, .ref p, rfl, .ref a, rfl, a, xs, rfl, .inl hS, p, (xs.length : Int), rfl, by omega, by omega, sp, fun d H' d0 d1 but sp' => ?_⟩
    obtain ⟨i, rfl⟩ : ∃ i : Nat, d = (i : Int) := ⟨d.toNat, by omega⟩
    have hi : i < xs.length := by omega
    refine ⟨a, xs, (i : Int), xs[i], rfl, rfl, ?_, atI_nat (List.getElem?_eq_getElem hi), k _ _ (List.getElem_mem hi) but sp'⟩
    rcases hS with (h | ⟨o, h⟩) | h
    · exact .inl (.inl (but _ _ ne h))
    · exact .inl (.inr ⟨o, but _ _ ne h⟩)
    · exact .inr h
end
end PW
namespace PW
open PySem PySem.Spec PyProof.Rows L2 Evl
/-! ### rows drawn -/
theorem mem_takes {l d : Int} {wh k : Str} (h1 : l ∈ ([0, 1, 2] : List Int)) (h2 : d ∈ ([0, 1, 2] : List Int)) (h3 : wh ∈ wheresW) (h4 : k ∈ keptW) : mkTake l (l + d) wh k ∈ takesW :=
  List.mem_flatMap.mpr ⟨l, h1, List.mem_flatMap.mpr ⟨d, h2, List.mem_flatMap.mpr ⟨wh, h3, List.mem_map.mpr ⟨k, h4, rfl⟩⟩⟩⟩
theorem in3 {l : Int} (h0 : 0 ≤ l) (h1 : l < 3) : l ∈ ([0, 1, 2] : List Int) := by
  have : l = 0 ∨ l = 1 ∨ l = 2 := by omega
  rcases this with rfl | rfl | rfl <;> simp
theorem small_num {n : Int} (h0 : 0 ≤ n) (h1 : n < 100) : n.natAbs.log2 < 1920 ∧ (txt n).length ≤ 10 := by
  have z : ∀ k, k < 100 → ((k : Nat) : Int).natAbs.log2 < 1920 ∧ (txt ((k : Nat) : Int)).length ≤ 10 := by decide +kernel
  have e : ((n.toNat : Nat) : Int) = n := by omega
  have y := z n.toNat (by omega)
  rwa [e] at y
theorem wheres_short : ∀ x ∈ wheresW, x.length ≤ 20 := by decide +kernel
theorem kept_short : ∀ x ∈ keptW, x.length ≤ 20 := by decide +kernel
theorem SpringAt.ext {H H' : Hp} {p : Addr} (s : SpringAt H p) (e : Ex H H') : SpringAt H' p :=
  let ⟨l, m, t, h⟩ := s
  ⟨l, m, t, e _ _ h⟩
theorem SpringAt.some {H : Hp} {p : Addr} (s : SpringAt H p) : H p ≠ none := fun z => by
  obtain ⟨l, m, t, h⟩ := s
  rw [z] at h
  cases h
section
variable {K : PySem.W.Frag} {σ : L2.St} {H : Hp} {p : Addr} {Q : VK} {E : XK}
theorem of_ev {tl : TE} {vs : List V} (h : EvL tl σ H vs) (hp : σ[0]? = some (some (.ref p))) (sp : SpringAt H p) (n0 : 0 < vs.length) (n1 : vs.length < 1000)
    (k : ∀ x H', x ∈ vs → But p H H' → SpringAt H' p → Q x H') : tCall (spOf K) [] E (tCons (tVar 0) (tCons tl tNil)) σ H Q :=
  ⟨.ref p, hp, h H (Ex.refl H) _ fun l H1 nl e hl => ⟨p, l, vs, rfl, sq_of hl, fun z => sp.some (z ▸ nl), n0, by omega, sp.ext e, fun x H' hx but sp' => k x H' hx ((But.of e).trans but) sp'⟩⟩
theorem draw_ev {n : Int} (hp : σ[0]? = some (some (.ref p))) (sp : SpringAt H p) (n0 : 0 < n) (n1 : n < 1000)
    (k : ∀ d H', 0 ≤ d → d < n → But p H H' → SpringAt H' p → Q (.int d) H') : tCall spDraw [] E (tCons (tVar 0) (tCons (tC (.int n)) tNil)) σ H Q :=
  ⟨.ref p, hp, p, n, rfl, n0, by omega, sp, k⟩
end
def spTakeL : Sp := fun vs H Q _ => ∃ (p : Addr) (m : Int), vs = [.ref p, .int m] ∧ SpringAt H p ∧ ∀ x H', x ∈ takesW → But p H H' → SpringAt H' p → Q (.str x) H'
abbrev sTakeL : Stmt := top 25
theorem scTakeL : FnScope ["_law_spring_here", "_law_many", "_law_least", "_law_most", "_law_where"] ["_law_spring_here", "_law_many"] (defScope sTakeL) := ⟨rfl, rfl, rfl, by decide +kernel, rfl, by decide +kernel, by decide +kernel⟩
section
variable {P : Program} {w : World} {K : PySem.W.Frag} {mg : Str → Option Value} {base : Heap}
/-- the defs of the law's draws -/
structure Drw (K : PySem.W.Frag) (mg : Str → Option Value) (fD fO : Addr) (dD dO : FuncData) : Prop where
  D : Fun K "_law_draw" "_law_draw" sDraw fD dD
  bD : Binds K dD ["_law_spring_here", "_law_size"] []
  mD : mg "_law_draw" = some (.ref fD)
  O : Fun K "_law_of" "_law_of" sOf fO dO
  bO : Binds K dO ["_law_spring_here", "_law_menu"] []
  mO : mg "_law_of" = some (.ref fO)
variable {fD fO : Addr} {dD dO : FuncData}
theorem ok_takeL {f : Addr} {fd : FuncData} {j : Nat} (F : Fun K "_law_take" "_law_take" sTakeL f fd) (B : Blt mg) (W : Drw K mg fD fO dD dO) :
    FnOk P w K mg base CX0 (j + 3) f fd ["_law_spring_here", "_law_many"] spTakeL := by
  have GD : FnOk P w K mg base CX0 (j + 2) fD dD ["_law_spring_here", "_law_size"] spDraw := ok_draw W.D B
  have GO : FnOk P w K mg base CX0 (j + 2) fO dO ["_law_spring_here", "_law_menu"] (spOf K) := ok_of W.O B W.D W.bD W.mD
  refine F.ok scTakeL (fun vs H Q E h => ?_) (fun cdv A outer s H vs Q E hr h => ?_)
  · obtain ⟨p, m, rfl, _⟩ := h
    rfl
  · obtain ⟨p, m, rfl, sp, k⟩ := h
    refine ⟨_, (pss_cons (ps_set (i := 2) scTakeL.nd rfl (.inl rfl) (pe_ifExp (pt_cmpR op_gt (pv 1) pe_int (nomark _)) (pe_call GO hr (by rfl) W.mO W.O.kp W.bO .nil pass0 (pa_cons (pv 0) (pa_cons (pe_lst (pa_cons pe_int (pa_cons pe_int (pa_cons pe_int (pa_cons pe_int (pa_cons pe_int pa_nil)))))) pa_nil))) (pe_call GO hr (by rfl) W.mO W.O.kp W.bO .nil pass0 (pa_cons (pv 0) (pa_cons (pe_lst (pa_cons pe_int (pa_cons pe_int (pa_cons pe_int pa_nil)))) pa_nil)))))
      (pss_cons (ps_set (i := 3) scTakeL.nd rfl (.inl rfl) (pe_op op_add (pv 2) (pe_call GD hr (by rfl) W.mD W.D.kp W.bD .nil pass0 (pa_cons (pv 0) (pa_cons pe_int pa_nil)))))
      (pss_cons (ps_set (i := 4) scTakeL.nd rfl (.inl rfl) (pe_call GO hr (by rfl) W.mO W.O.kp W.bO .nil pass0 (pa_cons (pv 0) (pa_cons (pe_lst (pa_cons pe_str (pa_cons pe_str (pa_cons pe_str (pa_cons pe_str (pa_cons pe_str (pa_cons (pe_op op_add_str pe_str (pe_callTy call_str_int (by rfl) B.str bStr (pa_cons (pe_op op_add pe_int (pe_call GD hr (by rfl) W.mD W.D.kp W.bD .nil pass0 (pa_cons (pv 0) (pa_cons pe_int pa_nil)))) pa_nil))) pa_nil))))))) pa_nil))))
      (pss_one (ps_ret (pe_op op_add_str (pe_op op_add_str (pe_op op_add_str (pe_op op_add_str (pe_op op_add_str (pe_op op_add_str (pe_op op_add_str pe_str (pe_callTy call_str_int (by rfl) B.str bStr (pa_cons (pv 2) pa_nil))) pe_str) (pe_callTy call_str_int (by rfl) B.str bStr (pa_cons (pv 3) pa_nil))) pe_str) (pv 4)) pe_str) (pe_call GO hr (by rfl) W.mO W.O.kp W.bO .nil pass0 (pa_cons (pv 0) (pa_cons (pe_lst (pa_cons pe_str (pa_cons pe_str pa_nil))) pa_nil))))))))), ?_⟩
    have one : ∀ {Q : VK}, (∀ l H1, l ∈ ([0, 1, 2] : List Int) → But p H H1 → SpringAt H1 p → Q (.int l) H1) → (tIf (tTest (tOp (rI0 fun i j => .bl (decide (j < i))) (tVar 1) (tC (.int 2))))
        (tCall (spOf K) [] E0 (tCons (tVar 0) (tCons (tLst (tCons (tC (.int 0)) (tCons (tC (.int 1)) (tCons (tC (.int 1)) (tCons (tC (.int 1)) (tCons (tC (.int 2)) tNil)))))) tNil)))
        (tCall (spOf K) [] E0 (tCons (tVar 0) (tCons (tLst (tCons (tC (.int 0)) (tCons (tC (.int 1)) (tCons (tC (.int 1)) tNil)))) tNil)))) [some (.ref p), some (.int m), none, none, none] H Q := by
      intro Q q
      refine ⟨.int m, rfl, m, 2, rfl, rfl, _, rfl, ?_⟩
      by_cases z : 2 < m
      · rw [decide_eq_true z]
        refine iteT (of_ev (vs := [.int 0, .int 1, .int 1, .int 1, .int 2]) (el_lst (ea_cons ev_c (ea_cons ev_c (ea_cons ev_c (ea_cons ev_c (ea_cons ev_c ea_nil))))) (Nat.le_of_ble_eq_true rfl)) rfl sp (by decide) (by decide) fun x H1 hx but sp1 => ?_)
        simp only [List.mem_cons, List.mem_nil_iff, or_false] at hx
        rcases hx with rfl | rfl | rfl | rfl | rfl <;> exact q _ H1 (by decide) but sp1
      · rw [decide_eq_false z]
        refine iteF (of_ev (vs := [.int 0, .int 1, .int 1]) (el_lst (ea_cons ev_c (ea_cons ev_c (ea_cons ev_c ea_nil))) (Nat.le_of_ble_eq_true rfl)) rfl sp (by decide) (by decide) fun x H1 hx but sp1 => ?_)
        simp only [List.mem_cons, List.mem_nil_iff, or_false] at hx
        rcases hx with rfl | rfl | rfl <;> exact q _ H1 (by decide) but sp1
    refine one fun l H1 hl but1 sp1 => ?_
    refine ⟨.int l, rfl, draw_ev (n := 3) rfl sp1 (by decide) (by decide) fun d H2 d0 d1 but2 sp2 => ⟨l, d, rfl, rfl, ?_⟩⟩
    have hd := in3 d0 d1
    have l02 : 0 ≤ l ∧ l < 3 := by
      simp only [List.mem_cons, List.mem_nil_iff, or_false] at hl
      omega
    refine ⟨.ref p, rfl, draw_ev (n := 4) rfl sp2 (by decide) (by decide) fun u H3 u0 u1 but3 sp3 => ⟨1, u, rfl, rfl, 1 + u, rfl, (small_num (by omega) (by omega)).1, "under ", txt (1 + u), rfl, rfl, ?_, ?_, fun pl npl => ?_⟩⟩
    · have := (small_num (n := 1 + u) (by omega) (by omega)).2
      exact Nat.le_trans (Nat.add_le_add_left this _) (by decide)
    · show 6 ≤ sizeLine
      decide
    have e3 := Ex.new (o := .lst [V.str "top", .str "bottom", .str "bottom", .str "under 1", .str "under 2", .str ((("under " : Str)) ++ txt (1 + u))]) npl
    refine ⟨p, pl, _, rfl, sq_of upd_same, fun z => sp3.some (z ▸ npl), by show 0 < 6; decide, by show 6 < 1000000; decide, sp3.ext e3, fun x H4 hx but4 sp4 => ?_⟩
    obtain ⟨wh, rfl, hw⟩ : ∃ wh, x = .str wh ∧ wh ∈ wheresW := by
      simp only [List.mem_cons, List.mem_nil_iff, or_false] at hx
      have u4 : u = 0 ∨ u = 1 ∨ u = 2 ∨ u = 3 := by omega
      rcases hx with rfl | rfl | rfl | rfl | rfl | rfl
      · exact ⟨_, rfl, by decide +kernel⟩
      · exact ⟨_, rfl, by decide +kernel⟩
      · exact ⟨_, rfl, by decide +kernel⟩
      · exact ⟨_, rfl, by decide +kernel⟩
      · exact ⟨_, rfl, by decide +kernel⟩
      · rcases u4 with rfl | rfl | rfl | rfl <;> exact ⟨_, rfl, by decide +kernel⟩
    have s1 := small_num (n := l) l02.1 (by omega)
    have s2 := small_num (n := l + d) (by omega) (by omega)
    have s3 := wheres_short _ hw
    refine ⟨.int l, rfl, l, rfl, s1.1, "take ", txt l, rfl, rfl, ?_, _, " to ", rfl, rfl, ?_, .int (l + d), rfl, l + d, rfl, s2.1, _, txt (l + d), rfl, rfl, ?_, _, " back ", rfl, rfl, ?_, .str wh, rfl, _, wh, rfl, rfl, ?_, _, " ", rfl, rfl, ?_, ?_⟩
    rotate_left 6
    · refine of_ev (vs := [.str "kept", .str "turned"]) (el_lst (ea_cons ev_c (ea_cons ev_c ea_nil)) (Nat.le_of_ble_eq_true rfl)) rfl sp4 (by decide) (by decide) fun y H5 hy but5 sp5 => ?_
      obtain ⟨kk, rfl, hk⟩ : ∃ kk, y = .str kk ∧ kk ∈ keptW := by
        simp only [List.mem_cons, List.mem_nil_iff, or_false] at hy
        rcases hy with rfl | rfl
        · exact ⟨_, rfl, by decide +kernel⟩
        · exact ⟨_, rfl, by decide +kernel⟩
      have s4 := kept_short _ hk
      refine ⟨_, kk, rfl, rfl, ?_, k _ H5 (mem_takes hl hd hw hk) ((((but1.trans but2).trans but3).trans ((But.of e3).trans but4)).trans but5) sp5⟩
      ((try simp only [strLen_append]); refine Nat.le_trans (m := 1000) ?_ (by decide); have a1 : (Str.ofString "take ").length = 5 := rfl; have a2 : (Str.ofString " to ").length = 4 := rfl; have a3 : (Str.ofString " back ").length = 6 := rfl; have a4 : (Str.ofString " ").length = 1 := rfl; omega)
    all_goals ((try simp only [strLen_append]); refine Nat.le_trans (m := 1000) ?_ (by decide); have a1 : (Str.ofString "take ").length = 5 := rfl; have a2 : (Str.ofString " to ").length = 4 := rfl; have a3 : (Str.ofString " back ").length = 6 := rfl; have a4 : (Str.ofString " ").length = 1 := rfl; omega)
end
end PW
namespace PW
open PySem PySem.Spec PyProof.Rows L2 Evl
def spRowsL : Sp := fun vs H Q _ => ∃ p : Addr, vs = [.ref p] ∧ SpringAt H p ∧ ∀ r ss H', H r = none → But p H H' → H' r = some (.lst (ss.map V.str)) → SpringAt H' p → Rows ss → ss.length ≤ 4 → Q (.ref r) H'
abbrev sRowsL : Stmt := top 26
theorem scRowsL : FnScope ["_law_spring_here", "_law_many", "_law_found", "_law_k", "_law_some"] ["_law_spring_here"] (defScope sRowsL) := ⟨rfl, rfl, rfl, by decide +kernel, rfl, by decide +kernel, by decide +kernel⟩
theorem mem_heads {m : Int} {a : Str} (h1 : m ∈ ([2, 3, 4] : List Int)) (h2 : a ∈ (["0", "1"] : List Str)) : mkHead m a ∈ headsW := by
  refine List.mem_append_left _ (List.mem_flatMap.mpr ⟨m, h1, ?_⟩)
  simp only [List.mem_cons, List.mem_nil_iff, or_false] at h2 ⊢
  rcases h2 with rfl | rfl
  · exact .inl rfl
  · exact .inr rfl
theorem take_day {x : Str} (h : x ∈ takesW) : x ∈ daysW := List.mem_append_left _ (List.mem_append_left _ h)
theorem Rows.snoc {ss : List Str} {x : Str} (r : Rows ss) (h : x ∈ daysW) (n : ss.length < 7) : Rows (ss ++ [x]) := by
  have t := r.two
  refine ⟨by simp; omega, by simp; omega, ?_, fun i h1 h2 => ?_⟩
  · have e : (ss ++ [x]).getD 0 "" = ss.getD 0 "" := by
      rw [List.getD_eq_getElem?_getD, List.getD_eq_getElem?_getD, List.getElem?_append_left (show 0 < ss.length by omega)]
    rw [e]
    exact r.head
  · by_cases z : i < ss.length
    · have e : (ss ++ [x]).getD i "" = ss.getD i "" := by
        rw [List.getD_eq_getElem?_getD, List.getD_eq_getElem?_getD, List.getElem?_append_left z]
      rw [e]
      exact r.days i h1 z
    · have e : (ss ++ [x]).getD i "" = x := by
        have : i = ss.length := by
          simp at h2
          omega
        subst this
        simp
      rw [e]
      exact h
section
variable {P : Program} {w : World} {K : PySem.W.Frag} {mg : Str → Option Value} {base : Heap} {fD fO : Addr} {dD dO : FuncData}
theorem ok_rowsL {f fT : Addr} {fd dT : FuncData} {j : Nat} (F : Fun K "_law_rows" "_law_rows" sRowsL f fd) (B : Blt mg) (W : Drw K mg fD fO dD dO)
    (T : Fun K "_law_take" "_law_take" sTakeL fT dT) (bT : Binds K dT ["_law_spring_here", "_law_many"] []) (mT : mg "_law_take" = some (.ref fT)) :
    FnOk P w K mg base CX0 (j + 4) f fd ["_law_spring_here"] spRowsL := by
  have GD : FnOk P w K mg base CX0 (j + 3) fD dD ["_law_spring_here", "_law_size"] spDraw := ok_draw W.D B
  have GO : FnOk P w K mg base CX0 (j + 3) fO dO ["_law_spring_here", "_law_menu"] (spOf K) := ok_of W.O B W.D W.bD W.mD
  have GT : FnOk P w K mg base CX0 (j + 3) fT dT ["_law_spring_here", "_law_many"] spTakeL := ok_takeL T B W
  refine F.ok scRowsL (fun vs H Q E h => ?_) (fun cdv A outer s H vs Q E hr h => ?_)
  · obtain ⟨p, rfl, _⟩ := h
    rfl
  · obtain ⟨p, rfl, sp, k⟩ := h
    refine ⟨_, (pss_cons (ps_set (i := 1) scRowsL.nd rfl (.inl rfl) (pe_call GO hr (by rfl) W.mO W.O.kp W.bO .nil pass0 (pa_cons (pv 0) (pa_cons (pe_lst (pa_cons pe_int (pa_cons pe_int (pa_cons pe_int (pa_cons pe_int (pa_cons pe_int pa_nil)))))) pa_nil))))
      (pss_cons (ps_set (i := 2) scRowsL.nd rfl (.inl rfl) (pe_lst (pa_cons (pe_op op_add_str (pe_op op_add_str (pe_op op_add_str pe_str (pe_callTy call_str_int (by rfl) B.str bStr (pa_cons (pv 1) pa_nil))) pe_str) (pe_call GO hr (by rfl) W.mO W.O.kp W.bO .nil pass0 (pa_cons (pv 0) (pa_cons (pe_lst (pa_cons pe_str (pa_cons pe_str (pa_cons pe_str (pa_cons pe_str pa_nil))))) pa_nil)))) (pa_cons (pe_call GT hr (by rfl) mT T.kp bT .nil pass0 (pa_cons (pv 0) (pa_cons (pv 1) pa_nil))) pa_nil))))
      (pss_cons (ps_for PassesOwn.never rfl (pi_range1 rfl B.range (pa_cons (pe_call GD hr (by rfl) W.mD W.D.kp W.bD .nil pass0 (pa_cons (pv 0) (pa_cons pe_int pa_nil))) pa_nil)) (pg_name (i := 3) scRowsL.nd rfl (Or.inl rfl)) (pss_cons (ps_set (i := 4) scRowsL.nd rfl (.inl rfl) (pe_lst (pa_cons (pe_call GT hr (by rfl) mT T.kp bT .nil pass0 (pa_cons (pv 0) (pa_cons (pv 1) pa_nil))) (pa_cons (pe_call GT hr (by rfl) mT T.kp bT .nil pass0 (pa_cons (pv 0) (pa_cons (pv 1) pa_nil))) (pa_cons pe_str (pa_cons pe_str (pa_cons (pe_op op_add_str pe_str (pe_callTy call_str_int (by rfl) B.str bStr (pa_cons (pe_op op_add pe_int (pe_call GD hr (by rfl) W.mD W.D.kp W.bD .nil pass0 (pa_cons (pv 0) (pa_cons pe_int pa_nil)))) pa_nil))) pa_nil)))))))
      (pss_one (ps_expr (pe_bm PySem.F.plainAttrs_list PySem.F.slot_list_append PySem.F.type_list_append mt_append (pv 2) (pa_cons (pe_call GO hr (by rfl) W.mO W.O.kp W.bO .nil pass0 (pa_cons (pv 0) (pa_cons (pv 4) pa_nil))) pa_nil))))))
      (pss_one (ps_ret (pv 2)))))), ?_⟩
    refine of_ev (vs := [.int 2, .int 3, .int 3, .int 3, .int 4]) (el_lst (ea_cons ev_c (ea_cons ev_c (ea_cons ev_c (ea_cons ev_c (ea_cons ev_c ea_nil))))) (Nat.le_of_ble_eq_true rfl)) rfl sp (by decide) (by decide) fun x H1 hx but1 sp1 => ?_
    obtain ⟨m, rfl, hm⟩ : ∃ m, x = .int m ∧ m ∈ ([2, 3, 4] : List Int) := by
      simp only [List.mem_cons, List.mem_nil_iff, or_false] at hx
      rcases hx with rfl | rfl | rfl | rfl | rfl <;> exact ⟨_, rfl, by decide⟩
    have m24 : 2 ≤ m ∧ m ≤ 4 := by
      simp only [List.mem_cons, List.mem_nil_iff, or_false] at hm
      omega
    have sm := small_num (n := m) (by omega) (by omega)
    have c1 : (Str.ofString "plates ").length = 7 := rfl
    have c2 : (Str.ofString " away ").length = 6 := rfl
    refine ⟨.int m, rfl, m, rfl, sm.1, "plates ", txt m, rfl, rfl, ?_, _, " away ", rfl, rfl, ?_, ?_⟩
    · exact Nat.le_trans (show _ ≤ 1000 by omega) (by decide)
    · rw [strLen_append]
      exact Nat.le_trans (show _ ≤ 1000 by omega) (by decide)
    refine of_ev (vs := [.str "0", .str "0", .str "0", .str "1"]) (el_lst (ea_cons ev_c (ea_cons ev_c (ea_cons ev_c (ea_cons ev_c ea_nil)))) (Nat.le_of_ble_eq_true rfl)) rfl sp1 (by decide) (by decide) fun x H2 hx but2 sp2 => ?_
    obtain ⟨a, rfl, ha⟩ : ∃ a, x = .str a ∧ a ∈ (["0", "1"] : List Str) := by
      simp only [List.mem_cons, List.mem_nil_iff, or_false] at hx
      rcases hx with rfl | rfl | rfl | rfl <;> exact ⟨_, rfl, by decide +kernel⟩
    have la : a.length ≤ 10 := (show ∀ a ∈ (["0", "1"] : List Str), a.length ≤ 10 by decide +kernel) a ha
    refine ⟨_, a, rfl, rfl, ?_, ?_⟩
    · rw [strLen_append, strLen_append]
      exact Nat.le_trans (show _ ≤ 1000 by omega) (by decide)
    refine ⟨.ref p, rfl, .int m, rfl, p, m, rfl, sp2, fun t H3 ht but3 sp3 => ?_⟩
    refine ⟨by show 2 ≤ sizeLine; decide, fun r nr => ?_⟩
    have b03 := (but1.trans but2).trans but3
    have er := Ex.new (o := .lst [V.str (mkHead m a), .str t]) nr
    have r0 : H r = none := by
      cases z : H r with
      | none => rfl
      | some u =>
        have rp : r ≠ p := fun y => sp3.some (y ▸ nr)
        rw [b03 _ _ rp z] at nr
        cases nr
    have rp : r ≠ p := fun y => sp3.some (y ▸ nr)
    have rows0 : Rows [mkHead m a, t] := ⟨by simp, by simp, mem_heads hm ha, fun i h1 h2 => by
      have : i = 1 := by
        simp at h2
        omega
      subst this
      exact take_day ht⟩
    refine draw_ev (n := 3) rfl (sp3.ext er) (by decide) (by decide) fun d H4 d0 d1 but4 sp4 => ⟨d, rfl, by omega, by omega, for_range (lo := 0) (n := d.toNat)
      (fun i σ' H' => ∃ (y3 y4 : Option V) (ss : List Str), σ' = [some (.ref p), some (.int m), some (.ref r), y3, y4] ∧ But p H H' ∧ H' r = some (.lst (ss.map V.str)) ∧ SpringAt H' p ∧ Rows ss ∧ ss.length ≤ 2 + i)
      ⟨none, none, [mkHead m a, t], rfl, b03.trans ((But.of er).trans but4), but4 _ _ rp upd_same, sp4, rows0, by simp⟩ ?_ ?_⟩
    · rintro i σ' H5 hi ⟨y3, y4, ss, rfl, but5, hr5, sp5, rows5, len5⟩
      refine ⟨.ref p, rfl, .int m, rfl, p, m, rfl, sp5, fun t1 H6 h6 b6 sp6 => ⟨.ref p, rfl, .int m, rfl, p, m, rfl, sp6, fun t2 H7 h7 b7 sp7 => ?_⟩⟩
      refine draw_ev (n := 3) rfl sp7 (by decide) (by decide) fun u H8 u0 u1 b8 sp8 => ⟨1, u, rfl, rfl, 1 + u, rfl, (small_num (by omega) (by omega)).1, "cut ", txt (1 + u), rfl, rfl, ?_, ?_, fun l nl => ?_⟩
      · have := (small_num (n := 1 + u) (by omega) (by omega)).2
        have c : (Str.ofString "cut ").length = 4 := rfl
        exact Nat.le_trans (show _ ≤ 1000 by omega) (by decide)
      · show 5 ≤ sizeLine
        decide
      have el := Ex.new (o := .lst [V.str t1, .str t2, .str "turn", .str "rest", .str ("cut " ++ txt (1 + u))]) nl
      have hr8 : H8 r = some (.lst (ss.map V.str)) := b8 _ _ rp (b7 _ _ rp (b6 _ _ rp hr5))
      refine ⟨.ref r, rfl, Or.inl ⟨rfl, _, sq_of (el _ _ hr8)⟩, ?_⟩
      refine ⟨.ref p, rfl, .ref l, rfl, p, l, _, rfl, sq_of upd_same, fun z => sp8.some (z ▸ nl), by show 0 < 5; decide, by show 5 < 1000000; decide, sp8.ext el, fun x H9 hx b9 sp9 => ?_⟩
      obtain ⟨y, rfl, hy⟩ : ∃ y, x = .str y ∧ y ∈ daysW := by
        simp only [List.mem_cons, List.mem_nil_iff, or_false] at hx
        have u3 : u = 0 ∨ u = 1 ∨ u = 2 := by omega
        rcases hx with rfl | rfl | rfl | rfl | rfl
        · exact ⟨_, rfl, take_day h6⟩
        · exact ⟨_, rfl, take_day h7⟩
        · exact ⟨_, rfl, by decide +kernel⟩
        · exact ⟨_, rfl, by decide +kernel⟩
        · rcases u3 with rfl | rfl | rfl <;> exact ⟨_, rfl, by decide +kernel⟩
      have hr9 : H9 r = some (.lst (ss.map V.str)) := b9 _ _ rp (el _ _ hr8)
      have b59 : But p H5 H9 := ((b6.trans b7).trans b8).trans ((But.of el).trans b9)
      refine ⟨r, ss.map V.str, .str y, rfl, rfl, hr9, ?_, _, _, ss ++ [y], rfl, fun b o hb e => ?_, ?_, ?_, rows5.snoc hy (by omega), by simp; omega⟩
      · rw [List.length_map]
        exact sz_lt (by omega)
      · rw [upd_ne (ne_of_none e r0)]
        exact b59 _ _ hb (but5 _ _ hb e)
      · rw [upd_same, List.map_append]
        rfl
      · obtain ⟨a1, a2, a3, a4⟩ := sp9
        exact ⟨a1, a2, a3, by rw [upd_ne rp.symm]; exact a4⟩
    · rintro σ' H5 ⟨y3, y4, ss, rfl, but5, hr5, sp5, rows5, len5⟩
      exact ⟨.ref r, rfl, k r ss H5 r0 but5 hr5 sp5 rows5 (by omega)⟩
end
end PW
namespace PW
open PySem PySem.Spec PyProof.Rows L2 Evl
/-! ### rules made of drawn rows -/
theorem head_words : headsW.all (fun h => (Txt.split h " ").all fun x => decide (x.length ≤ 640)) = true := by decide +kernel
theorem getD_mem {ws : List Str} {i : Nat} (h : i < ws.length) : ws.getD i "" ∈ ws := by
  rw [List.getD_eq_getElem?_getD, List.getElem?_eq_getElem h]
  exact List.getElem_mem h
theorem noNl_free {s : Str} (h : noNl s = true) : 10 ∉ TL.tl s := fun z => by
  unfold noNl at h
  have : (TL.tl s).contains 10 = true := List.contains_iff_mem.mpr z
  rw [this] at h
  cases h
theorem Rows.free {ss : List Str} (r : Rows ss) : ∀ x ∈ ss, 10 ∉ TL.tl x := fun x hx => by
  obtain ⟨i, hi, rfl⟩ := List.mem_iff_getElem.mp hx
  have e : ss[i] = ss.getD i "" := by simp [List.getElem?_eq_getElem hi]
  rw [e]
  by_cases z : i = 0
  · subst z
    have h := List.all_eq_true.mp heads_ok _ r.head
    simp only [Bool.and_eq_true] at h
    exact noNl_free h.1.2
  · have h := List.all_eq_true.mp days_ok _ (r.days i (by omega) hi)
    simp only [Bool.and_eq_true] at h
    exact noNl_free h.1.2
theorem Rows.back {ss : List Str} (r : Rows ss) : Txt.split (Txt.join "\n" ss) "\n" = ss := by
  refine TL.split_join (y := "\n") (s := 10) (S := []) rfl (by decide +kernel) (fun z => ?_) r.free
  have := r.two
  rw [z] at this
  simp at this
theorem Good.joined {ss : List Str} {a b : Int} (G : Good ss a b) : (Txt.join "\n" ss).length ≤ 100000 := by
  have h := StrLaws.join_length_le "\n" ss
  have s := sum_le G.lens
  have g := G.seven
  have one : (Str.ofString "\n").length = 1 := rfl
  rw [TL.join_eq]
  rw [one] at h
  omega
def spMade (K : PySem.W.Frag) (C CD : Addr) : Sp := fun vs H Q _ => ∃ (r : Addr) (ss : List Str) (a b : Int), vs = [.ref r] ∧ SqL K H r (ss.map V.str) ∧ Rows ss ∧ Good ss a b ∧
  ∀ x H', H x = none → Ex H H' → RuleAt H' C CD x ss a b → Q (.ref x) H'
def spHead (K : PySem.W.Frag) : Sp := fun vs H Q _ => ∃ (r : Addr) (ss : List Str) (a b : Int), vs = [.ref r] ∧ SqL K H r (ss.map V.str) ∧ Rows ss ∧ Good ss a b ∧
  ∀ l H', H l = none → Ex H H' → H' l = some (.lst [.int a, .int b]) → Q (.ref l) H'
abbrev sMade : Stmt := top 27
abbrev sHead : Stmt := top 28
abbrev sBy : Stmt := top 29
theorem scMade : FnScope ["_law_rows_now"] ["_law_rows_now"] (defScope sMade) := ⟨rfl, rfl, rfl, by decide +kernel, rfl, by decide +kernel, by decide +kernel⟩
theorem scHead : FnScope ["_law_rows_now", "_law_words"] ["_law_rows_now"] (defScope sHead) := ⟨rfl, rfl, rfl, by decide +kernel, rfl, by decide +kernel, by decide +kernel⟩
theorem scBy : FnScope ["_law_some"] ["_law_some"] (defScope sBy) := ⟨rfl, rfl, rfl, by decide +kernel, rfl, by decide +kernel, by decide +kernel⟩
section
variable {P : Program} {w : World} {K : PySem.W.Frag} {mg : Str → Option Value} {base : Heap} {C CD fI fR pR CR : Addr} {mc : Value} {dR : FuncData}
/-- the class Rule -/
structure Cl (K : PySem.W.Frag) (mg : Str → Option Value) (C fI fR pR CR : Addr) (mc : Value) (dR : FuncData) : Prop where
  R : Ru K C
  I : IsC K C
  m : mg "Rule" = some (.ref C)
  M : Mk K C fI
  rd : ClX.CRead K C mc
  cm : ClX.CMet K C mc "read" pR fR
  F : Fun K "read" "Rule.read" sRead fR dR
  b : Binds K dR ["cls", "text"] []
  mR : mg "InvalidRows" = some (.ref CR)
theorem mk_ev {t : TA} {σ : L2.St} {H : Hp} {ss : List Str} {a b : Int} {Q : VK} {E : XK} (h : EvA t σ H (ss.map V.str)) (G : Good ss a b)
    (k : ∀ x H', H x = none → Ex H H' → RuleAt H' C CD x ss a b → Q (.ref x) H') : StX.tMakeR C (spStar C CD) E t σ H Q :=
  h H (Ex.refl H) _ fun H1 e1 x dx hx hdx ne => star_made G hx hdx ne fun H' e' r => ⟨rfl, k x H' (fresh_back e1 hx) (e1.trans e') r⟩
theorem ok_made {f : Addr} {fd : FuncData} (F : Fun K "_law_made" "_law_made" sMade f fd) (B : Blt mg) (Y : Cl K mg C fI fR pR CR mc dR) (GI : FnR P w K mg base CX0 5 fI (spStar C CD)) :
    FnOk P w K mg base CX0 8 f fd ["_law_rows_now"] (spMade K C CD) := by
  have FR : FnR P w K mg base CX0 7 fR (spRead C CD) := toR (ok_Read (j := 4) Y.F B Y.M GI Y.mR) Y.b
  refine F.ok scMade (fun vs H Q E h => ?_) (fun cdv A outer s H vs Q E hr h => ?_)
  · obtain ⟨r, ss, a, b, rfl, _⟩ := h
    rfl
  · obtain ⟨r, ss, a, b, rfl, hS, rows, G, k⟩ := h
    refine ⟨_, pss_one (ps_ret (ClX.pe_cmeth (pe_glob (v := .ref C) (by rfl) Y.m rfl) Y.rd Y.cm FR hr pass0 (pa_cons (pe_join pe_str (pv 0)) pa_nil))), ?_⟩
    refine ⟨rfl, ⟨_, rfl⟩, .ref r, rfl, _, r, ss, rfl, rfl, .inl hS, G.join, Txt.join "\n" ss, a, b, rfl, G.joined, ?_, ?_⟩
    · rw [rows.back]
      exact G
    · rw [rows.back]
      exact k
theorem ok_head {f : Addr} {fd : FuncData} {j : Nat} (F : Fun K "_law_head" "_law_head" sHead f fd) (B : Blt mg) :
    FnOk P w K mg base CX0 (j + 1) f fd ["_law_rows_now"] (spHead K) := by
  refine F.ok scHead (fun vs H Q E h => ?_) (fun cdv A outer s H vs Q E hr h => ?_)
  · obtain ⟨r, ss, a, b, rfl, _⟩ := h
    rfl
  · obtain ⟨r, ss, a, b, rfl, hS, rows, G, k⟩ := h
    have ho := List.all_eq_true.mp heads_ok _ rows.head
    simp only [Bool.and_eq_true] at ho
    have h1 := ho.1.1.1
    unfold headOk at h1
    rw [G.head] at h1
    simp only [Bool.and_eq_true, decide_eq_true_eq, beq_iff_eq] at h1
    obtain ⟨⟨⟨⟨t1, t2⟩, _⟩, _⟩, four⟩ := h1
    have g2 := rows.two
    have f0 := G.fine (ss.getD 0 "") (getD_mem (by omega))
    have l0 := (fine_of f0).1
    have wl : ∀ x ∈ Txt.split (ss.getD 0 "") " ", x.length ≤ 640 := fun x hx => by
      have z := List.all_eq_true.mp head_words _ rows.head
      have y := List.all_eq_true.mp z x hx
      simpa using y
    have wm : ∀ i, i < 4 → (Txt.split (ss.getD 0 "") " ").getD i "" ∈ Txt.split (ss.getD 0 "") " " := fun i hi => getD_mem (by omega)
    refine ⟨_, pss_cons (ps_set (i := 1) scHead.nd rfl (.inl rfl) (pe_split (pe_ix ix_list (pv 0) pe_int (fun _ _ => rfl)) pe_str))
      (pss_one (ps_ret (pe_lst (pa_cons (pe_callTy call_int_str (by rfl) B.int PyProof.Rows.Boot.int (pa_cons (pe_ix ix_list (pv 1) pe_int (fun _ _ => rfl)) pa_nil)) (pa_cons (pe_callTy call_int_str (by rfl) B.int PyProof.Rows.Boot.int (pa_cons (pe_ix ix_list (pv 1) pe_int (fun _ _ => rfl)) pa_nil)) pa_nil))))), ?_⟩
    refine q_asgL (el_split (a := ss.getD 0 "") (ev_op (ev_var rfl) ev_c (rv_ixL hS (word_at (i := 0) (by omega)))) ev_c l0 rfl) fun p H1 n1 e1 h1 => ?_
    have int : ∀ {H9 : Hp} (i : Nat) (n : Int), i < 4 → Ex H1 H9 → PySem.intText? ((Txt.split (ss.getD 0 "") " ").getD i "") = some n →
        Ev (tCB (fun xs H Q => ∃ a n, xs = [.str a] ∧ PySem.intText? a = some n ∧ a.length ≤ 640 ∧ Q (.int n) H) (tCons (tOp (rIxL K) (tVar 1) (tC (.int (i : Int)))) tNil)) [some (.ref r), some (.ref p)] H9 (.int n) := fun i n hi e9 ht =>
      ev_cb (ea_cons (ev_op (ev_var rfl) ev_c (rv_ixL (sq_of (e9 _ _ h1)) (word_at (by omega)))) ea_nil) fun H8 _ Q8 q8 => ⟨_, n, rfl, ht, wl _ (wm i hi), q8 H8 (Ex.refl H8)⟩
    refine s_retL (el_lst (ea_cons (int 1 a (by omega) (Ex.refl _) t1) (ea_cons (int 3 b (by omega) (Ex.refl _) t2) ea_nil)) (Nat.le_of_ble_eq_true rfl)) fun l H2 nl e2 hl => k l H2 (fresh_back e1 nl) (e1.trans e2) hl
theorem len2 {ss : List Str} (h : ss.length = 2) : ss.map V.str = [.str (ss.getD 0 ""), .str (ss.getD 1 "")] := by
  match ss, h with
  | [_, _], _ => rfl
theorem len3 {ss : List Str} (h : ss.length = 3) : ss.map V.str = [.str (ss.getD 0 ""), .str (ss.getD 1 ""), .str (ss.getD 2 "")] := by
  match ss, h with
  | [_, _, _], _ => rfl
theorem len4 {ss : List Str} (h : ss.length = 4) : ss.map V.str = [.str (ss.getD 0 ""), .str (ss.getD 1 ""), .str (ss.getD 2 ""), .str (ss.getD 3 "")] := by
  match ss, h with
  | [_, _, _, _], _ => rfl
theorem ok_by {f fM : Addr} {fd dM : FuncData} (F : Fun K "_law_by_rows" "_law_by_rows" sBy f fd) (B : Blt mg) (Y : Cl K mg C fI fR pR CR mc dR) (GI : FnR P w K mg base CX0 5 fI (spStar C CD))
    (M : Fun K "_law_made" "_law_made" sMade fM dM) (bM : Binds K dM ["_law_rows_now"] []) (mM : mg "_law_made" = some (.ref fM)) :
    FnOk P w K mg base CX0 9 f fd ["_law_some"] (spMade K C CD) := by
  have GM : FnOk P w K mg base CX0 8 fM dM ["_law_rows_now"] (spMade K C CD) := ok_made M B Y GI
  refine F.ok scBy (fun vs H Q E h => ?_) (fun cdv A outer s H vs Q E hr h => ?_)
  · obtain ⟨r, ss, a, b, rfl, _⟩ := h
    rfl
  · obtain ⟨r, ss, a, b, rfl, hS, rows, G, k⟩ := h
    have hr6 := hr.mono (j := 6) (by decide)
    have l1 : (ss.map V.str).length = ss.length := List.length_map ..
    refine ⟨_, pss_cons (ps_if (pt_cmpR op_eq (pe_callB call_len_seq (by rfl) B.len PySem.boot_len (pa_cons (pv 0) pa_nil)) pe_int (nomark _)) (pss_one (ps_ret (StX.pe_makeR Y.M GI hr6 (by rfl) Y.m pass0 (pa_cons (pe_ix ix_list (pv 0) pe_int (fun _ _ => rfl)) (pa_cons (pe_ix ix_list (pv 0) pe_int (fun _ _ => rfl)) pa_nil))))) pss_nil)
      (pss_cons (ps_if (pt_cmpR op_eq (pe_callB call_len_seq (by rfl) B.len PySem.boot_len (pa_cons (pv 0) pa_nil)) pe_int (nomark _)) (pss_one (ps_ret (StX.pe_makeR Y.M GI hr6 (by rfl) Y.m pass0 (pa_cons (pe_ix ix_list (pv 0) pe_int (fun _ _ => rfl)) (pa_cons (pe_ix ix_list (pv 0) pe_int (fun _ _ => rfl)) (pa_cons (pe_ix ix_list (pv 0) pe_int (fun _ _ => rfl)) pa_nil)))))) pss_nil)
      (pss_one (ps_ret (pe_ifExp (pt_cmpR op_eq (pe_callB call_len_seq (by rfl) B.len PySem.boot_len (pa_cons (pv 0) pa_nil)) pe_int (nomark _)) (StX.pe_makeR Y.M GI hr6 (by rfl) Y.m pass0 (pa_cons (pe_ix ix_list (pv 0) pe_int (fun _ _ => rfl)) (pa_cons (pe_ix ix_list (pv 0) pe_int (fun _ _ => rfl)) (pa_cons (pe_ix ix_list (pv 0) pe_int (fun _ _ => rfl)) (pa_cons (pe_ix ix_list (pv 0) pe_int (fun _ _ => rfl)) pa_nil))))) (pe_call GM hr (by rfl) mM M.kp bM .nil pass0 (pa_cons (pv 0) pa_nil)))))), ?_⟩
    have is : ∀ {H9 : Hp} (n : Nat), Ex H H9 → EvT (tTest (tOp rEq (tCB (rLenS K) (tCons (tVar 0) tNil)) (tC (.int (n : Int))))) [some (.ref r)] H9 (decide (ss.length = n)) := fun n e9 =>
      et_is (et_test (ev_op (ev_len (ev_var rfl) (ex_l e9 hS)) ev_c (rv_eq rfl))) (by rw [l1]; simp; omega)
    refine q_when (is 2 (Ex.refl H)) (fun z H1 e1 => ?_) (fun z H1 e1 => ?_)
    · have n2 : ss.length = 2 := of_decide_eq_true z
      exact mk_ev (ss := ss) (by rw [len2 n2]; exact (ea_cons (ev_op (ev_var rfl) ev_c (rv_ixL (ex_l e1 hS) (word_at (i := 0) (by omega)))) (ea_cons (ev_op (ev_var rfl) ev_c (rv_ixL (ex_l e1 hS) (word_at (i := 1) (by omega)))) ea_nil))) G fun x H2 hx e2 r2 => k x H2 (fresh_back e1 hx) (e1.trans e2) r2
    · refine q_when (is 3 e1) (fun z3 H2 e2 => ?_) (fun z3 H2 e2 => ?_)
      · have n3 : ss.length = 3 := of_decide_eq_true z3
        exact mk_ev (ss := ss) (by rw [len3 n3]; exact (ea_cons (ev_op (ev_var rfl) ev_c (rv_ixL (ex_l (e1.trans e2) hS) (word_at (i := 0) (by omega)))) (ea_cons (ev_op (ev_var rfl) ev_c (rv_ixL (ex_l (e1.trans e2) hS) (word_at (i := 1) (by omega)))) (ea_cons (ev_op (ev_var rfl) ev_c (rv_ixL (ex_l (e1.trans e2) hS) (word_at (i := 2) (by omega)))) ea_nil)))) G fun x H3 hx e3 r3 => k x H3 (fresh_back (e1.trans e2) hx) ((e1.trans e2).trans e3) r3
      · have e02 := e1.trans e2
        refine is 4 e02 H2 (Ex.refl H2) _ fun H3 e3 => ?_
        have e03 := e02.trans e3
        by_cases n4 : ss.length = 4
        · rw [decide_eq_true n4]
          refine iteT ?_
          exact mk_ev (ss := ss) (by rw [len4 n4]; exact (ea_cons (ev_op (ev_var rfl) ev_c (rv_ixL (ex_l e03 hS) (word_at (i := 0) (by omega)))) (ea_cons (ev_op (ev_var rfl) ev_c (rv_ixL (ex_l e03 hS) (word_at (i := 1) (by omega)))) (ea_cons (ev_op (ev_var rfl) ev_c (rv_ixL (ex_l e03 hS) (word_at (i := 2) (by omega)))) (ea_cons (ev_op (ev_var rfl) ev_c (rv_ixL (ex_l e03 hS) (word_at (i := 3) (by omega)))) ea_nil))))) G fun x H4 hx e4 r4 => k x H4 (fresh_back e03 hx) (e03.trans e4) r4
        · rw [decide_eq_false n4]
          refine iteF ?_
          exact ⟨.ref r, rfl, r, ss, a, b, rfl, ex_l e03 hS, rows, G, fun x H4 hx e4 r4 => k x H4 (fresh_back e03 hx) (e03.trans e4) r4⟩
end
end PW
namespace PW
open PySem PySem.Spec PyProof.Rows L2 Evl
/-! ### what a rule shows -/
theorem joinL_mem {S : List Nat} : ∀ {L : List (List Nat)} {c : Nat}, c ∈ TL.joinL S L → c ∈ S ∨ ∃ l ∈ L, c ∈ l
  | [], _, h => by cases h
  | [p], _, h => .inr ⟨p, List.mem_singleton.mpr rfl, h⟩
  | p :: q :: r, c, h => by
    have h' : c ∈ p ++ (S ++ TL.joinL S (q :: r)) := h
    rcases List.mem_append.mp h' with h1 | h1
    · exact .inr ⟨p, List.mem_cons_self, h1⟩
    · rcases List.mem_append.mp h1 with h2 | h2
      · exact .inl h2
      · rcases joinL_mem h2 with h3 | ⟨l, hl, h3⟩
        · exact .inl h3
        · exact .inr ⟨l, List.mem_cons_of_mem _ hl, h3⟩
def shortStr (x : Str) : Prop := ∀ c ∈ x.cps.toList, c < 16 ^ 8
theorem ok_short {x : Str} (h : PyData.strOk x = true) : shortStr x := fun c hc => by
  have h0 : x.cps.all (· < 0x110000) = true := h
  have := (Array.all_eq_true_iff_forall_mem.mp h0) c (Array.mem_toList_iff.mp hc)
  have e : (16 : Nat) ^ 8 = 4294967296 := by decide
  simp at this
  omega
theorem join_short {ss : List Str} (h : OkW ss) : shortStr (Txt.join "\n" ss) := fun c hc => by
  rw [TL.join_eq] at hc
  have hc' : c ∈ TL.tl (Str.join "\n" ss) := hc
  rw [TL.tl_join] at hc'
  have e : (16 : Nat) ^ 8 = 4294967296 := by decide
  rcases joinL_mem hc' with h1 | ⟨l, hl, h1⟩
  · have : c = 10 := by
      have z : TL.tl (Str.ofString "\n") = [10] := rfl
      rw [z] at h1
      exact List.mem_singleton.mp h1
    omega
  · obtain ⟨x, hx, rfl⟩ := List.mem_map.mp hl
    exact ok_short (h x hx) c h1
def toldD (ss : List Str) (a b : Int) : PyData := .list [.tuple (ss.map PyData.str), .str (Txt.join "\n" ss), .int a, .int b, .int ((ss.length - 1 : Nat) : Int), .str (Txt.join "\n" ss), .str (reprW ss)]
theorem strs_show : ∀ {ss : List Str}, OkW ss → PyData.showableAll (ss.map PyData.str) = true ∧ PyData.leavesShortAll 13 (ss.map PyData.str) = true
  | [], _ => ⟨rfl, rfl⟩
  | x :: ss, h => by
    have r := strs_show (ss := ss) fun y hy => h y (List.mem_cons_of_mem _ hy)
    have a := ok_short (h x List.mem_cons_self)
    constructor
    · show (true && PyData.showableAll (ss.map PyData.str)) = true
      rw [r.1]
      rfl
    · show (PyData.leavesShort 13 (.str x) && PyData.leavesShortAll 13 (ss.map PyData.str)) = true
      rw [r.2, Bool.and_true]
      simp only [PyData.leavesShort, List.all_eq_true, decide_eq_true_eq]
      exact a
theorem strs_weight : ∀ {ss : List Str}, (∀ x ∈ ss, x.length ≤ 1000) → PyData.weightAll (ss.map PyData.str) ≤ ss.length * 1001
  | [], _ => Nat.le_refl _
  | x :: ss, h => by
    have r := strs_weight (ss := ss) fun y hy => h y (List.mem_cons_of_mem _ hy)
    have a : x.cps.size ≤ 1000 := h x List.mem_cons_self
    show x.cps.size + 1 + PyData.weightAll (ss.map PyData.str) ≤ (ss.length + 1) * 1001
    omega
theorem repr_short : ∀ n, n < 7 → shortStr (Str.empty ++ "Rule of " ++ Str.ofString (toString ((n : Nat) : Int)) ++ " days") ∧ (Str.empty ++ "Rule of " ++ Str.ofString (toString ((n : Nat) : Int)) ++ " days").length ≤ 100 ∧
    (("Rule of " : Str) ++ txt ((n : Nat) : Int)) ++ " days" = Str.empty ++ "Rule of " ++ Str.ofString (toString ((n : Nat) : Int)) ++ " days" ∧ (("Rule of " : Str) ++ txt ((n : Nat) : Int)).length ≤ 100 := by
  unfold shortStr
  decide +kernel
theorem int_short : ∀ n, n < 100 → ((n : Nat) : Int).natAbs.log2 < 1920 ∧ (PyData.shown (.int ((n : Nat) : Int))).length ≤ 13 ∧ (PyData.shown (.int (-((n : Nat) : Int)))).length ≤ 13 ∧ PyData.weight (.int ((n : Nat) : Int)) ≤ 100 ∧ PyData.weight (.int (-((n : Nat) : Int))) ≤ 100 := by decide +kernel
theorem int_shown {i : Int} (h : i.natAbs < 100) : i.natAbs.log2 < 1920 ∧ (PyData.shown (.int i)).length ≤ 13 ∧ PyData.weight (.int i) ≤ 100 := by
  have z := int_short i.natAbs h
  have e : ((i.natAbs : Nat) : Int).natAbs = i.natAbs := by omega
  rw [e] at z
  refine ⟨z.1, ?_⟩
  rcases Int.natAbs_eq i with q | q
  · rw [← q] at z
    exact ⟨z.2.1, z.2.2.2.1⟩
  · rw [← q] at z
    exact ⟨z.2.2.1, z.2.2.2.2⟩
theorem told_fits {ss : List Str} {a b : Int} (G : Good ss a b) (ha : a.natAbs < 100) (hb : b.natAbs < 100) :
    (toldD ss a b).showable = true ∧ (toldD ss a b).shown.length ≤ sizeLine ∧ (toldD ss a b).depth ≤ 40 := by
  have g7 := G.seven
  have s := strs_show G.oks
  have l := strs_lay G.oks
  have wt := strs_weight G.lens
  have A := int_shown ha
  have Bb := int_shown hb
  have N := int_shown (i := ((ss.length - 1 : Nat) : Int)) (by omega)
  have rp := repr_short (ss.length - 1) (by omega)
  have js := join_short G.oks
  have jl : (Txt.join "\n" ss).cps.size ≤ 100000 := G.joined
  have rl : (reprW ss).cps.size ≤ 100 := rp.2.1
  refine ⟨?_, PyData.shown_fits (B := 13) (by decide) (by decide) ?_ ?_, ?_⟩
  · have n1 : (ss.length - 1).log2 < 1920 := by simpa using N.1
    simp [toldD, PyData.showable, PyData.showableAll, s.1, A.1, Bb.1, n1]
  · have j : PyData.leavesShort 13 (.str (Txt.join "\n" ss)) = true := by
      simp only [PyData.leavesShort, List.all_eq_true, decide_eq_true_eq]
      exact js
    have r : PyData.leavesShort 13 (.str (reprW ss)) = true := by
      simp only [PyData.leavesShort, List.all_eq_true, decide_eq_true_eq]
      exact rp.1
    have i : ∀ {k : Int}, (PyData.shown (.int k)).length ≤ 13 → PyData.leavesShort 13 (.int k) = true := fun h => by simpa only [PyData.leavesShort, decide_eq_true_eq] using h
    have t : PyData.leavesShort 13 (.tuple (ss.map PyData.str)) = true := by simpa only [PyData.leavesShort] using s.2
    simp only [toldD, PyData.leavesShort, PyData.leavesShortAll, Bool.and_eq_true] at j r t ⊢
    have i1 := i A.2.1
    have i2 := i Bb.2.1
    have i3 := i N.2.1
    simp only [PyData.leavesShort] at i1 i2 i3
    exact ⟨t, j, i1, i2, i3, j, r, trivial⟩
  · have a3 := A.2.2
    have b3 := Bb.2.2
    have n3 := N.2.2
    show PyData.weightAll (ss.map PyData.str) + 1 + ((Txt.join "\n" ss).cps.size + 1 + (PyData.weight (.int a) + 1 + (PyData.weight (.int b) + 1 + (PyData.weight (.int ((ss.length - 1 : Nat) : Int)) + 1 + ((Txt.join "\n" ss).cps.size + 1 + ((reprW ss).cps.size + 1 + 0)))))) ≤ 2 ^ 20
    have e : (2 : Nat) ^ 20 = 1048576 := by decide
    omega
  · show max (PyData.depthAll (ss.map PyData.str) + 1) (max 0 (max 0 (max 0 (max 0 (max 0 (max 0 0)))))) + 1 ≤ 40
    rw [l.2]
    decide
theorem Good.nums {ss : List Str} {a b : Int} (G : Good ss a b) (r : Rows ss) : a.natAbs < 100 ∧ b.natAbs < 100 := by
  have ho := List.all_eq_true.mp heads_ok _ r.head
  simp only [Bool.and_eq_true] at ho
  have h1 := ho.1.1.1
  unfold headOk at h1
  rw [G.head] at h1
  simp only [Bool.and_eq_true, decide_eq_true_eq, beq_iff_eq] at h1
  exact ⟨h1.1.1.2, h1.1.2⟩

end PW
namespace PW
open PySem PySem.Spec PyProof.Rows L2 Evl
/-- the methods of Rule: g their defs, pr their properties -/
structure Ms (K : PySem.W.Frag) (C : Addr) (g : Nat → Addr) (gd : Nat → FuncData) (pr : Nat → Addr) : Prop where
  F0 : Fun K "rows" "Rule.rows" sRows (g 0) (gd 0)
  b0 : Binds K (gd 0) ["self"] []
  p0 : PropOf K C "rows" (pr 0) (g 0)
  F1 : Fun K "text" "Rule.text" sText (g 1) (gd 1)
  b1 : Binds K (gd 1) ["self"] []
  p1 : PropOf K C "text" (pr 1) (g 1)
  F2 : Fun K "plates" "Rule.plates" sPlates (g 2) (gd 2)
  b2 : Binds K (gd 2) ["self"] []
  p2 : PropOf K C "plates" (pr 2) (g 2)
  F3 : Fun K "away" "Rule.away" sAway (g 3) (gd 3)
  b3 : Binds K (gd 3) ["self"] []
  p3 : PropOf K C "away" (pr 3) (g 3)
  F4 : Fun K "__len__" "Rule.__len__" sLen (g 4) (gd 4)
  b4 : Binds K (gd 4) ["self"] []
  s4 : PySem.W.findIn K (.ref C) "__len__" = some (some (.ref (g 4)))
  i4 : PySem.W.isFn K (.ref (g 4)) = true
  F5 : Fun K "__str__" "Rule.__str__" sStr (g 5) (gd 5)
  b5 : Binds K (gd 5) ["self"] []
  s5 : PySem.W.findIn K (.ref C) "__str__" = some (some (.ref (g 5)))
  i5 : PySem.W.isFn K (.ref (g 5)) = true
  F6 : Fun K "__repr__" "Rule.__repr__" sRepr (g 6) (gd 6)
  b6 : Binds K (gd 6) ["self"] []
  s6 : PySem.W.findIn K (.ref C) "__repr__" = some (some (.ref (g 6)))
  i6 : PySem.W.isFn K (.ref (g 6)) = true
  F7 : Fun K "__eq__" "Rule.__eq__" sEq (g 7) (gd 7)
  b7 : Binds K (gd 7) ["self", "other"] []
  s7 : PySem.W.findIn K (.ref C) "__eq__" = some (some (.ref (g 7)))
  i7 : PySem.W.isFn K (.ref (g 7)) = true
  nb : PySem.W.findIn K (.ref C) "__bool__" = some none
  ne : PySem.W.findIn K (.ref C) "__ne__" = some (some (.builtin "object.__ne__"))
/-- at x a rule of these rows, all that it holds -/
def FullAt (H : Hp) (C x : Addr) (ss : List Str) (a b : Int) (dx p q : Addr) : Prop := H x = some (.ins C dx (ruleF p q a b)) ∧ H p = some (.tup (ss.map V.str)) ∧ ∃ ds, H q = some (.tup ds) ∧ ds.length = ss.length - 1
section
variable {K : PySem.W.Frag} {σ : L2.St} {H : Hp} {C x dx p q : Addr} {ss : List Str} {a b : Int} {ta : TE} {g : Addr → List Str → Int → Int → V} {E : XK}
theorem FullAt.ext {H' : Hp} (f : FullAt H C x ss a b dx p q) (e : Ex H H') : FullAt H' C x ss a b dx p q := ⟨e _ _ f.1, e _ _ f.2.1, let ⟨ds, h1, h2⟩ := f.2.2; ⟨ds, e _ _ h1, h2⟩⟩
theorem ask_sp {Q : VK} (f : FullAt H C x ss a b dx p q) (G : Good ss a b) (k : ∀ H', Ex H H' → Q (g p ss a b) H') : spAsk C g [.ref x] H Q E :=
  ⟨x, dx, p, q, ss, a, b, rfl, f.1, f.2.1, f.2.2, G, k⟩
theorem ev_prop (ha : Ev ta σ H (.ref x)) (f : FullAt H C x ss a b dx p q) (G : Good ss a b) : Ev (tProp C (spAsk C g) [] E ta) σ H (g p ss a b) := fun H1 e Q k =>
  ha H1 e _ fun H2 e2 => ⟨x, dx, _, rfl, (e.trans e2) _ _ f.1, ask_sp (f.ext (e.trans e2)) G fun H3 e3 => k H3 (e2.trans e3)⟩
theorem ev_lenO {n : Nat} (hg : g p ss a b = .int n) (hn : n ≤ 1000000) (ha : Ev ta σ H (.ref x)) (f : FullAt H C x ss a b dx p q) (G : Good ss a b) : Ev (tCB (rLenO C (spAsk C g) E) (tCons ta tNil)) σ H (.int n) :=
  ev_cb (ea_cons ha ea_nil) fun H1 e Q k => ⟨x, dx, _, rfl, e _ _ f.1, ask_sp (f.ext e) G fun H3 e3 => ⟨n, hg, hn, k H3 e3⟩⟩
theorem ev_boolO {n : Nat} (hg : g p ss a b = .int n) (hn : n ≤ 1000000) (ha : Ev ta σ H (.ref x)) (f : FullAt H C x ss a b dx p q) (G : Good ss a b) : Ev (tCB (rBoolO C (spAsk C g) E) (tCons ta tNil)) σ H (.bl ((n : Int) != 0)) :=
  ev_cb (ea_cons ha ea_nil) fun H1 e Q k => ⟨x, dx, _, rfl, e _ _ f.1, ask_sp (f.ext e) G fun H3 e3 => ⟨n, hg, hn, k H3 e3⟩⟩
theorem ev_strO {s : Str} (hg : g p ss a b = .str s) (ha : Ev ta σ H (.ref x)) (f : FullAt H C x ss a b dx p q) (G : Good ss a b) : Ev (tCB (rStrO C (spAsk C g) E) (tCons ta tNil)) σ H (.str s) :=
  ev_cb (ea_cons ha ea_nil) fun H1 e Q k => ⟨x, dx, _, rfl, e _ _ f.1, ask_sp (f.ext e) G fun H3 e3 => ⟨s, hg, k H3 e3⟩⟩
end
theorem dats_strs {H : Hp} : ∀ ss : List Str, Dats H (ss.map V.str) (ss.map PyData.str)
  | [] => .nil
  | x :: ss => .cons (.str x) (dats_strs ss)
def spShows (K : PySem.W.Frag) (C : Addr) : Sp := fun vs H Q _ => ∃ (x r dx p q : Addr) (ss : List Str) (a b : Int), vs = [.ref x, .ref r] ∧ FullAt H C x ss a b dx p q ∧ SqL K H r (ss.map V.str) ∧ Rows ss ∧ Good ss a b ∧
  ∀ H', Ex H H' → Q (.bl true) H'
abbrev sShows : Stmt := top 30
theorem scShows : FnScope ["_law_mine", "_law_some", "_law_sheet", "_law_many_days", "_law_told", "_law_due"] ["_law_mine", "_law_some"] (defScope sShows) := ⟨rfl, rfl, rfl, by decide +kernel, rfl, by decide +kernel, by decide +kernel⟩
theorem bRepr : bootBuiltins "repr" = some (.builtin "repr") := by decide +kernel
theorem bBool : bootBuiltins "bool" = some (.type "bool") := by decide +kernel
section
variable {P : Program} {w : World} {K : PySem.W.Frag} {mg : Str → Option Value} {base : Heap} {C CD fI fR pR CR fH : Addr} {mc : Value} {dR dH : FuncData} {g : Nat → Addr} {gd : Nat → FuncData} {pr : Nat → Addr}
theorem ok_shows {f : Addr} {fd : FuncData} (F : Fun K "_law_shows" "_law_shows" sShows f fd) (B : Blt mg) (Y : Cl K mg C fI fR pR CR mc dR) (N : Ms K C g gd pr)
    (FH : Fun K "_law_head" "_law_head" sHead fH dH) (bH : Binds K dH ["_law_rows_now"] []) (mH : mg "_law_head" = some (.ref fH)) (hs : (base.get? sysModules).isSome = true) :
    FnG P w K mg base CX0 10 f fd ["_law_mine", "_law_some"] (spShows K C) := by
  have GH : FnOk P w K mg base CX0 9 fH dH ["_law_rows_now"] (spHead K) := ok_head (j := 8) FH B
  have G0 : FnOk P w K mg base CX0 3 (g 0) (gd 0) ["self"] (spAsk C (fun p _ _ _ => .ref p)) := ok_Rows (j := 2) N.F0 B Y.R
  have G1 : FnOk P w K mg base CX0 3 (g 1) (gd 1) ["self"] (spAsk C (fun _ ss _ _ => .str (Txt.join "\n" ss))) := ok_Text (j := 2) N.F1 B Y.R
  have G2 : FnOk P w K mg base CX0 3 (g 2) (gd 2) ["self"] (spAsk C (fun _ _ a _ => .int a)) := ok_Plates (j := 2) N.F2 B Y.R
  have G3 : FnOk P w K mg base CX0 3 (g 3) (gd 3) ["self"] (spAsk C (fun _ _ _ b => .int b)) := ok_Away (j := 2) N.F3 B Y.R
  have G4 : FnR P w K mg base CX0 3 (g 4) (spAsk C (fun _ ss _ _ => .int ((ss.length - 1 : Nat) : Int))) := toR (ok_Len (j := 2) N.F4 B Y.R) N.b4
  have G5 : FnR P w K mg base CX0 3 (g 5) (spAsk C (fun _ ss _ _ => .str (Txt.join "\n" ss))) := toR (ok_Str (j := 2) N.F5 B Y.R) N.b5
  have G6 : FnR P w K mg base CX0 3 (g 6) (spAsk C (fun _ ss _ _ => .str (reprW ss))) := toR (ok_Repr (j := 2) N.F6 B Y.R) N.b6
  refine okG F scShows (fun vs H Q E h => ?_) (fun cdv A outer s H vs Q E' st hr9 h => ?_)
  · obtain ⟨x, r, dx, p, q, ss, a, b, rfl, _⟩ := h
    rfl
  · obtain ⟨x, r, dx, p, q, ss, a, b, rfl, fl, hS, rows, G, k⟩ := h
    have hu : A.units + 3 + 64 < cLine := hr9.units
    have hr6 := hr9.mono (j := 6) (by decide)
    have hr5 := hr9.mono (j := 5) (by decide)
    have hr4 := hr9.mono (j := 4) (by decide)
    have hr := hr9
    refine ⟨_, (pss_cons (ps_par (i := 2) (j := 3) rfl scShows.nd rfl rfl (by decide) rfl rfl (pa_cons (pe_join pe_str (pv 1)) (pa_cons (pe_op op_sub (pe_callB call_len_seq (by rfl) B.len PySem.boot_len (pa_cons (pv 1) pa_nil)) pe_int) pa_nil)) (by rfl))
      (pss_cons (ps_set (i := 4) scShows.nd rfl (.inl rfl) (pe_lst (pa_cons (pe_prop (pv 0) Y.R.cl N.p0 G0 hr4 N.b0 .nil pass0 (by rfl)) (pa_cons (pe_prop (pv 0) Y.R.cl N.p1 G1 hr4 N.b1 .nil pass0 (by rfl)) (pa_cons (pe_prop (pv 0) Y.R.cl N.p2 G2 hr4 N.b2 .nil pass0 (by rfl)) (pa_cons (pe_prop (pv 0) Y.R.cl N.p3 G3 hr4 N.b3 .nil pass0 (by rfl)) (pa_cons (pe_callB (call_lenO N.s4 N.i4 G4 hr4 pass0) (by rfl) B.len PySem.boot_len (pa_cons (pv 0) pa_nil)) (pa_cons (pe_callTy (call_strO N.s5 N.i5 G5 hr5 pass0) (by rfl) B.str bStr (pa_cons (pv 0) pa_nil)) (pa_cons (pe_callB (call_reprO N.s6 N.i6 G6 hr4 pass0) (by rfl) B.repr bRepr (pa_cons (pv 0) pa_nil)) pa_nil)))))))))
      (pss_cons (ps_set (i := 5) scShows.nd rfl (.inl rfl) (pe_op op_cat (pe_op op_cat (pe_lst (pa_cons (pe_callTy call_tuple_of (by rfl) B.tuple bTuple (pa_cons (pv 1) pa_nil)) (pa_cons (pv 2) pa_nil))) (pe_call GH hr (by rfl) mH FH.kp bH .nil pass0 (pa_cons (pv 1) pa_nil))) (pe_lst (pa_cons (pv 3) (pa_cons (pv 2) (pa_cons (pe_op op_add_str (pe_op op_add_str pe_str (pe_callTy call_str_int (by rfl) B.str bStr (pa_cons (pv 3) pa_nil))) pe_str) pa_nil))))))
      (pss_one (ps_ret (pe_and (pe_cmpR op_eq (pe_callB (call_reprD st hu hs) (by rfl) B.repr bRepr (pa_cons (pv 4) pa_nil)) (pe_callB (call_reprD st hu hs) (by rfl) B.repr bRepr (pa_cons (pv 5) pa_nil)) (nomark _)) (pe_one (pe_callTy (call_boolO N.nb N.s4 N.i4 G4 hr6 pass0) (by rfl) B.bool bBool (pa_cons (pv 0) pa_nil))))))))), ?_⟩
    have l1 : (ss.map V.str).length = ss.length := List.length_map ..
    have g2 := G.two
    have g7 := G.seven
    have nm := G.nums rows
    have fit := told_fits G nm.1 nm.2
    have rp := repr_short (ss.length - 1) (by omega)
    have n1 : (fun (i j : Int) => V.int (i - j)) (((ss.map V.str).length : Nat) : Int) 1 = V.int ((ss.length - 1 : Nat) : Int) := by
      show V.int _ = V.int _
      rw [l1]
      exact congrArg V.int (by omega)
    -- sheet, many_days
    refine ⟨⟨_, rfl⟩, .ref r, rfl, _, r, ss, rfl, rfl, .inl hS, G.join, .ref r, rfl, r, _, rfl, .inl hS, _, 1, rfl, rfl, _, _, rfl, ?_⟩
    rw [n1]
    refine q_asgL (xs := [.ref p, .str (Txt.join "\n" ss), .int a, .int b, .int ((ss.length - 1 : Nat) : Int), .str (Txt.join "\n" ss), .str (reprW ss)])
      (el_lst (ea_cons (ev_prop (g := fun p _ _ _ => .ref p) (ev_var rfl) fl G) (ea_cons (ev_prop (g := fun _ ss _ _ => .str (Txt.join "\n" ss)) (ev_var rfl) fl G) (ea_cons (ev_prop (g := fun _ _ a _ => .int a) (ev_var rfl) fl G) (ea_cons (ev_prop (g := fun _ _ _ b => .int b) (ev_var rfl) fl G)
        (ea_cons (ev_lenO (n := ss.length - 1) rfl (by omega) (ev_var rfl) fl G) (ea_cons (ev_strO rfl (ev_var rfl) fl G) (ea_cons (ev_strO rfl (ev_var rfl) fl G) ea_nil))))))) (Nat.le_of_ble_eq_true rfl)) fun t4 H1 nt e1 h4 => ?_
    have small : (((ss.length - 1 : Nat) : Int)).natAbs.log2 < 1920 := (small_num (by omega) (by omega)).1
    have hR : (("Rule of " : Str) ++ txt ((ss.length - 1 : Nat) : Int)) ++ " days" = reprW ss := rp.2.2.1
    have tl := (small_num (n := ((ss.length - 1 : Nat) : Int)) (by omega) (by omega)).2
    have c1 : (Str.ofString "Rule of ").length = 8 := rfl
    have c2 : (Str.ofString " days").length = 5 := rfl
    refine ⟨.ref r, rfl, r, _, rfl, .inl ⟨ex_l e1 hS, fun u nu => ⟨.str (Txt.join "
" ss), rfl, by show 2 ≤ sizeLine; decide, fun l1 nl1 => ?_⟩⟩⟩
    have eu := Ex.new (o := .tup (ss.map V.str)) nu
    have el1 := Ex.new (o := .lst [V.ref u, .str (Txt.join "
" ss)]) nl1
    refine ⟨.ref r, rfl, r, ss, a, b, rfl, ex_l ((e1.trans eu).trans el1) hS, rows, G, fun l2 H3 n2 e3 h2 => ?_⟩
    refine ⟨l1, l2, [.ref u, .str (Txt.join "
" ss)], [.int a, .int b], rfl, rfl, e3 _ _ upd_same, h2, by show 4 ≤ sizeLine; decide, fun l3 nl3 => ?_⟩
    have el3 := Ex.new (o := .lst [V.ref u, .str (Txt.join "
" ss), .int a, .int b]) nl3
    refine ⟨.int ((ss.length - 1 : Nat) : Int), rfl, .str (Txt.join "
" ss), rfl, .int ((ss.length - 1 : Nat) : Int), rfl, ((ss.length - 1 : Nat) : Int), rfl, small, "Rule of ", txt ((ss.length - 1 : Nat) : Int), rfl, rfl, ?_, _, " days", rfl, rfl, ?_,
      by show 3 ≤ sizeLine; decide, fun l5 nl5 => ?_⟩
    · exact Nat.le_trans (show _ ≤ 1000 by omega) (by decide)
    · rw [strLen_append]
      exact Nat.le_trans (show _ ≤ 1000 by omega) (by decide)
    rw [hR]
    have el5 := Ex.new (o := .lst [V.int ((ss.length - 1 : Nat) : Int), .str (Txt.join "
" ss), .str (reprW ss)]) nl5
    refine ⟨l3, l5, [.ref u, .str (Txt.join "
" ss), .int a, .int b], [.int ((ss.length - 1 : Nat) : Int), .str (Txt.join "
" ss), .str (reprW ss)], rfl, rfl, el5 _ _ upd_same, upd_same, by show 7 ≤ sizeLine; decide, fun l6 nl6 => ?_⟩
    have el6 := Ex.new (o := .lst [V.ref u, .str (Txt.join "
" ss), .int a, .int b, .int ((ss.length - 1 : Nat) : Int), .str (Txt.join "
" ss), .str (reprW ss)]) nl6
    have e36 := (el3.trans el5).trans el6
    have e16 := ((eu.trans el1).trans e3).trans e36
    have f6 := fl.ext (e1.trans e16)
    have hu6 := e36 _ _ (e3 _ _ (el1 _ _ (show (upd H1 u (.tup (ss.map V.str))) u = some (.tup (ss.map V.str)) from upd_same)))
    have D1 := Dat.lst (.inl (e16 _ _ h4)) (.cons (.tup (.inl f6.2.1) (dats_strs ss)) (.cons (.str (Txt.join "
" ss)) (.cons (.int a) (.cons (.int b) (.cons (.int ((ss.length - 1 : Nat) : Int)) (.cons (.str (Txt.join "
" ss)) (.cons (.str (reprW ss)) .nil)))))))
    have D2 := Dat.lst (.inl (show (upd _ l6 (.lst [V.ref u, .str (Txt.join "
" ss), .int a, .int b, .int ((ss.length - 1 : Nat) : Int), .str (Txt.join "
" ss), .str (reprW ss)])) l6 = _ from upd_same))
      (.cons (.tup (.inl hu6) (dats_strs ss)) (.cons (.str (Txt.join "
" ss)) (.cons (.int a) (.cons (.int b) (.cons (.int ((ss.length - 1 : Nat) : Int)) (.cons (.str (Txt.join "
" ss)) (.cons (.str (reprW ss)) .nil)))))))
    refine s_ret (v := .bl true) (ev_is (ev_andV (ev_op (ev_repr (d := toldD ss a b) (ev_var rfl) D1 fit.1 fit.2.1 fit.2.2) (ev_repr (d := toldD ss a b) (ev_var rfl) D2 fit.1 fit.2.1 fit.2.2) (rv_eq rfl))
      (fun _ => ev_boolO (n := ss.length - 1) rfl (by omega) (ev_var rfl) f6 G)) ?_) fun H7 e7 => k H7 ((e1.trans e16).trans e7)
    have : (((ss.length - 1 : Nat) : Int) != 0) = true := by
      rw [bne_iff_ne]
      omega
    rw [this]
    simp
end
end PW
namespace PW
open PySem PySem.Spec PyProof.Rows L2 Evl
/-! ### the law of one spring -/
theorem notFirst_self {K : PySem.W.Frag} {C : Addr} : PySem.W.notFirst K C (.ref C) = true := by
  unfold PySem.W.notFirst
  simp
/-- the built-in kinds that a rule is held against -/
structure Tys (K : PySem.W.Frag) (C : Addr) : Prop where
  nf : ∀ t ∈ (["NoneType", "str", "tuple", "int", "list"] : List String), PySem.W.notFirst K C (.type t) = true
  kt : ∀ t ∈ (["NoneType", "str", "tuple", "int", "list"] : List String), PySem.W.kitOne K (.type t) (.ref C) = some false
section
variable {K : PySem.W.Frag} {σ : L2.St} {H : Hp} {C x dx p q x2 dx2 p2 q2 : Addr} {ss ss2 : List Str} {a b a2 b2 : Int} {E : XK}
theorem rv_eqO (R : Ru K C) (I : IsC K C) (f : FullAt H C x ss a b dx p q) (G : Good ss a b) (f2 : FullAt H C x2 ss2 a2 b2 dx2 p2 q2) (G2 : Good ss2 a2 b2) :
    RV (rEqO K C (spEq K C) E) (.ref x) (.ref x2) H (.bl (PyData.eqv (rowsD ss) (rowsD ss2))) := fun H1 e Q k =>
  ⟨x, dx, _, .ref C, rfl, e _ _ f.1, I.ty R (e _ _ f2.1), notFirst_self, x, dx, p, q, ss, a, b, _, rfl, e _ _ f.1, e _ _ f.2.1, G, .inl ⟨x2, dx2, p2, q2, ss2, a2, b2, rfl, e _ _ f2.1, e _ _ f2.2.1, G2, k⟩⟩
theorem rv_neO (R : Ru K C) (I : IsC K C) (f : FullAt H C x ss a b dx p q) (G : Good ss a b) (f2 : FullAt H C x2 ss2 a2 b2 dx2 p2 q2) (G2 : Good ss2 a2 b2) :
    RV (rNeO K C (spEq K C) E) (.ref x) (.ref x2) H (.bl (!PyData.eqv (rowsD ss) (rowsD ss2))) := fun H1 e Q k =>
  ⟨x, dx, _, .ref C, rfl, e _ _ f.1, I.ty R (e _ _ f2.1), notFirst_self, x, dx, p, q, ss, a, b, _, rfl, e _ _ f.1, e _ _ f.2.1, G, .inl ⟨x2, dx2, p2, q2, ss2, a2, b2, rfl, e _ _ f2.1, e _ _ f2.2.1, G2, fun H2 e2 => ⟨_, rfl, k H2 e2⟩⟩⟩
theorem rv_eqN {y : V} {t : String} (N : Tys K C) (f : FullAt H C x ss a b dx p q) (G : Good ss a b) (ht : t ∈ (["NoneType", "str", "tuple", "int", "list"] : List String)) (ty : ∀ H1, Ex H H1 → TyX K H1 y (.type t)) :
    RV (rEqO K C (spEq K C) E) (.ref x) y H (.bl false) := fun H1 e Q k =>
  ⟨x, dx, _, .type t, rfl, e _ _ f.1, ty H1 e, N.nf t ht, x, dx, p, q, ss, a, b, _, rfl, e _ _ f.1, e _ _ f.2.1, G, .inr ⟨.type t, fun H2 e2 => ty H2 (e.trans e2), N.kt t ht, k⟩⟩
theorem as_pe {X : Cx} {e : Expr} {t t' : TE} (h : PE X e t) (eq : t = t') : PE X e t' := eq ▸ h
theorem ev_yes : EvT tYes σ H true := fun H1 _ _ q => q H1 (Ex.refl H1)
theorem ev_anyL {te : TE} {bs : List Bool} (h : EvL te σ H (bs.map V.bl)) : Ev (tCB (rAny K) (tCons te tNil)) σ H (.bl (bs.any id)) := fun H1 e Q q =>
  h H1 e _ fun p H2 _ e2 h2 => ⟨p, bs, rfl, sq_of h2, q H2 e2⟩
theorem ev_allL {te : TE} {bs : List Bool} (h : EvL te σ H (bs.map V.bl)) : Ev (tCB (rAll K) (tCons te tNil)) σ H (.bl (bs.all id)) := fun H1 e Q q =>
  h H1 e _ fun p H2 _ e2 h2 => ⟨p, bs, rfl, sq_of h2, q H2 e2⟩
theorem el_is {te : TE} {xs ys : List V} (h : EvL te σ H xs) (e : xs = ys) : EvL te σ H ys := e ▸ h
theorem ev_neLL {ta tb : TE} {bs cs : List Bool} (ha : EvL ta σ H (bs.map V.bl)) (hb : EvL tb σ H (cs.map V.bl)) (h : SeqAt.shaped (.list (bs.map PyData.bool)) = true) (h2 : SeqAt.shaped (.list (cs.map PyData.bool)) = true) :
    Ev (tOp (rNeD K) ta tb) σ H (.bl (!PyData.eqv (.list (bs.map PyData.bool)) (.list (cs.map PyData.bool)))) :=
  ev_opLL ha hb fun p1 q1 H9 hp hq _ H10 e10 Q k => ⟨_, _, Dp.bools (e10 _ _ hp), Dp.bools (e10 _ _ hq), h, h2, k H10 (Ex.refl H10)⟩
end
theorem given_f (n : Nat) : given n (fun _ => true) (fun _ => V.bl false) = (List.replicate n false).map V.bl := by
  induction n with
  | zero => rfl
  | succ n ih => rw [given_yes rfl, ih, List.replicate_succ', List.map_append]; rfl
theorem given_t (n : Nat) : given n (fun _ => true) (fun _ => V.bl true) = (List.replicate n true).map V.bl := by
  induction n with
  | zero => rfl
  | succ n ih => rw [given_yes rfl, ih, List.replicate_succ', List.map_append]; rfl
theorem RuleAt.full {H : Hp} {C CD x : Addr} {ss : List Str} {a b : Int} (r : RuleAt H C CD x ss a b) : ∃ dx p q, FullAt H C x ss a b dx p q :=
  let ⟨dx, p, q, ds, h1, h2, h3, h4⟩ := r
  ⟨dx, p, q, h1, h2, ds, h3, by rw [h4.1, List.length_map, List.length_drop]⟩
def spRight : Sp := fun vs H Q _ => ∃ p : Addr, vs = [.ref p] ∧ SpringAt H p ∧ ∀ H', But p H H' → Q (.bl true) H'
abbrev sRight : Stmt := top 31
theorem scRight : FnScope ["_law_spring_here", "_law_some", "_law_far", "_law_mine", "_law_yours", "_law_same", "_law_thing"] ["_law_spring_here"] (defScope sRight) := ⟨rfl, rfl, rfl, by decide +kernel, rfl, by decide +kernel, by decide +kernel⟩
theorem bAny : bootBuiltins "any" = some (.builtin "any") := by decide +kernel
theorem same_bools : ∀ k : Bool, (!PyData.eqv (.list ([k, !k, true].map PyData.bool)) (.list ([k, !k, true].map PyData.bool))) = false ∧ SeqAt.shaped (.list ([k, !k, true].map PyData.bool)) = true := by decide +kernel
section
variable {P : Program} {w : World} {K : PySem.W.Frag} {mg : Str → Option Value} {base : Heap} {C CD fI fR pR CR : Addr} {mc : Value} {dR : FuncData} {g : Nat → Addr} {gd : Nat → FuncData} {pr : Nat → Addr}
  {fr fb fs fm : Addr} {dr db ds dm : FuncData}
theorem bind_text {f : Addr} {fd : FuncData} (F : Fun K "read" "Rule.read" sRead f fd) (s : Shared) (a : Addr) (us : List Value) (hl : us.length = (["text"] : List Str).length) :
    BindsTo s fd ⟨[.ref a], (["text"] : List Str).zip us⟩ ((["cls", "text"] : List Str).zip (.ref a :: us)) := by
  obtain ⟨_, _, _, _, _, _, _, _, _, rfl, _, _⟩ := F.ex
  match us, hl with
  | [_], _ => exact .of_eq rfl
/-- the law's own defs -/
structure Lw (K : PySem.W.Frag) (mg : Str → Option Value) (fr fb fs fm : Addr) (dr db ds dm : FuncData) : Prop where
  mr : mg "_law_rows" = some (.ref fr)
  kr : PySem.W.keepIn K (.ref fr) = true
  br : Binds K dr ["_law_spring_here"] []
  mb : mg "_law_by_rows" = some (.ref fb)
  kb : PySem.W.keepIn K (.ref fb) = true
  bb : Binds K db ["_law_some"] []
  ms : mg "_law_shows" = some (.ref fs)
  ks : PySem.W.keepIn K (.ref fs) = true
  bs : Binds K ds ["_law_mine", "_law_some"] []
  mm : mg "_law_made" = some (.ref fm)
  km : PySem.W.keepIn K (.ref fm) = true
  bm : Binds K dm ["_law_rows_now"] []
theorem ok_right {f : Addr} {fd : FuncData} (F : Fun K "_law_right" "_law_right" sRight f fd) (B : Blt mg) (Y : Cl K mg C fI fR pR CR mc dR) (N : Ms K C g gd pr) (TS : Tys K C) (Z : Lw K mg fr fb fs fm dr db ds dm)
    (GI : FnR P w K mg base CX0 5 fI (spStar C CD)) (GR : FnOk P w K mg base CX0 10 fr dr ["_law_spring_here"] spRowsL) (GB : FnOk P w K mg base CX0 10 fb db ["_law_some"] (spMade K C CD))
    (GS : FnG P w K mg base CX0 10 fs ds ["_law_mine", "_law_some"] (spShows K C)) : FnG P w K mg base CX0 11 f fd ["_law_spring_here"] spRight := by
  have G0 : FnOk P w K mg base CX0 3 (g 0) (gd 0) ["self"] (spAsk C (fun p _ _ _ => .ref p)) := ok_Rows (j := 2) N.F0 B Y.R
  have G1 : FnOk P w K mg base CX0 3 (g 1) (gd 1) ["self"] (spAsk C (fun _ ss _ _ => .str (Txt.join "\n" ss))) := ok_Text (j := 2) N.F1 B Y.R
  have G2 : FnOk P w K mg base CX0 3 (g 2) (gd 2) ["self"] (spAsk C (fun _ _ a _ => .int a)) := ok_Plates (j := 2) N.F2 B Y.R
  have G4 : FnR P w K mg base CX0 3 (g 4) (spAsk C (fun _ ss _ _ => .int ((ss.length - 1 : Nat) : Int))) := toR (ok_Len (j := 2) N.F4 B Y.R) N.b4
  have GE : FnR P w K mg base CX0 4 (g 7) (spEq K C) := toR (ok_Eq (j := 3) N.F7 B Y.R Y.I Y.m) N.b7
  have FR : FnOk P w K mg base CX0 8 fR dR ["cls", "text"] (spRead C CD) := ok_Read (j := 5) Y.F B Y.M (GI.mono (by decide)) Y.mR
  refine okG F scRight (fun vs H Q E h => ?_) (fun cdv A outer s H vs Q E' st hr h => ?_)
  · obtain ⟨p, rfl, _⟩ := h
    rfl
  · obtain ⟨p, rfl, sp, k⟩ := h
    have hu : A.units + 3 + 64 < cLine := hr.units
    have hr4 := hr.mono (j := 4) (by decide)
    have hr5 := hr.mono (j := 5) (by decide)
    have hr8 := hr.mono (j := 8) (by decide)
    refine ⟨_, (pss_cons (ps_par (i := 1) (j := 2) rfl scRight.nd rfl rfl (by decide) rfl rfl (pa_cons (pe_call GR hr (by rfl) Z.mr Z.kr Z.br .nil pass0 (pa_cons (pv 0) pa_nil)) (pa_cons (pe_call GR hr (by rfl) Z.mr Z.kr Z.br .nil pass0 (pa_cons (pv 0) pa_nil)) pa_nil)) (by rfl))
      (pss_cons (ps_asg (pe_tup (pa_cons (pe_call GB hr (by rfl) Z.mb Z.kb Z.bb .nil pass0 (pa_cons (pv 1) pa_nil)) (pa_cons (pe_call GB hr (by rfl) Z.mb Z.kb Z.bb .nil pass0 (pa_cons (pv 2) pa_nil)) pa_nil))) (pg_tup (by rfl) (pgs_cons (pg_name (i := 3) scRight.nd rfl (Or.inr rfl)) (pgs_cons (pg_name (i := 4) scRight.nd rfl (Or.inl rfl)) pgs_nil))))
      (pss_cons (ps_if (pw_or (pt_not (pt_val (pe_callG GS st hr (by rfl) Z.ms Z.ks Z.bs .nil pass0 (pa_cons (pv 3) (pa_cons (pv 1) pa_nil))))) (pw_or1 (pt_not (pt_val (pe_callG GS st hr (by rfl) Z.ms Z.ks Z.bs .nil pass0 (pa_cons (pv 4) (pa_cons (pv 2) pa_nil))))))).pt (pss_one (ps_ret pe_bl)) pss_nil)
      (pss_cons (ps_set (i := 5) scRight.nd rfl (.inl rfl) (pe_cmpR (op_eqD hu) (pv 1) (pv 2) (nomark _)))
      (pss_cons (ps_if (pt_cmpR (op_neD hu) (pe_lst (pa_cons (pe_cmpR (op_eqO N.s7 N.i7 GE hr4 pass0) (pv 3) (pv 4) (nomark _)) (pa_cons (pe_cmpR (op_neO N.s7 N.ne Y.I.hm N.i7 GE hr5 pass0) (pv 3) (pv 4) (nomark _)) (pa_cons (pe_cmpR (op_eqO N.s7 N.i7 GE hr4 pass0) (pv 3) (pe_cmethK (ks := ["text"]) (pe_glob (v := .ref C) (by rfl) Y.m rfl) Y.rd Y.cm FR hr8 pass0 (pk_cons (pe_join pe_str (pv 1)) pk_nil) (bind_text Y.F) rfl) (nomark _)) pa_nil)))) (pe_lst (pa_cons (pv 5) (pa_cons (pe_not (pv 5)) (pa_cons pe_bl pa_nil)))) (nomark _)) (pss_one (ps_ret pe_bl)) pss_nil)
      (pss_one (ps_ret (pe_not (pe_callB (cr_any rfl) (by rfl) B.any bAny (pa_cons (pe_lc (own := [("_law_thing", 6)]) (g := gName 6) (tt := tYes) rfl scRight.nd (pi_list (pe_lst (pa_cons pe_non (pa_cons (pe_prop (pv 3) Y.R.cl N.p1 G1 hr4 N.b1 .nil pass0 (by rfl)) (pa_cons (pe_prop (pv 3) Y.R.cl N.p0 G0 hr4 N.b0 .nil pass0 (by rfl)) (pa_cons (pe_prop (pv 3) Y.R.cl N.p2 G2 hr4 N.b2 .nil pass0 (by rfl)) (pa_cons (pe_callB (call_lenO N.s4 N.i4 G4 hr4 pass0) (by rfl) B.len PySem.boot_len (pa_cons (pv 3) pa_nil)) (pa_cons (pv 1) pa_nil)))))))) (blkOk_by (N := ["_law_spring_here", "_law_some", "_law_far", "_law_mine", "_law_yours", "_law_same", "_law_thing"]) (sc := defScope sRight) (by decide +kernel)) (fun _ _ _ _ _ => pg_name (i := 6) scRight.nd rfl (Or.inl rfl)) (fun _ _ _ _ _ => pts_nil) (fun _ _ _ _ _ => as_pe (t' := tOp (rEqO K C (spEq K C) E0) (tVar 3) (tVar 6)) (pe_cmpR (op_eqO N.s7 N.i7 GE hr4 pass0) (pv 3) (pv 6) (nomark _)) rfl)) pa_nil)))))))))), ?_⟩
    refine ⟨.ref p, rfl, p, rfl, sp, fun r1 ss1 H1 n1 but1 h1 sp1 rows1 _ => ?_⟩
    refine ⟨.ref p, rfl, p, rfl, sp1, fun r2 ss2 H2 n2 but2 h2 sp2 rows2 _ => ⟨.ref r1, .ref r2, rfl, ?_⟩⟩
    have r1p : r1 ≠ p := fun z => sp.some (z ▸ n1)
    have h12 : H2 r1 = some (.lst (ss1.map V.str)) := but2 _ _ r1p h1
    have fin : ∀ H', Ex H2 H' → Q (.bl true) H' := fun H' e' => k H' ((but1.trans but2).trans (But.of e'))
    obtain ⟨a1, b1, G1'⟩ := rows1.good
    obtain ⟨a2, b2, G2'⟩ := rows2.good
    refine ⟨.ref r1, rfl, r1, ss1, a1, b1, rfl, sq_of h12, rows1, G1', fun x H3 nx e3 rx => ?_⟩
    refine ⟨.ref r2, rfl, r2, ss2, a2, b2, rfl, sq_of (e3 _ _ h2), rows2, G2', fun y H4' ny e4' ry' => ⟨by show 2 ≤ sizeLine; decide, fun tt ntt => ⟨tt, [.ref x, .ref y], rfl, st_of upd_same, rfl, .ref x, [.ref y], rfl, .ref y, [], rfl, rfl, ?_⟩⟩⟩
    have et := Ex.new (o := .tup [V.ref x, .ref y]) ntt
    obtain ⟨H4, hH4⟩ : ∃ H4, H4 = upd H4' tt (.tup [V.ref x, .ref y]) := ⟨_, rfl⟩
    rw [← hH4] at et ⊢
    have e4 := e4'.trans et
    have ry := ry'.ext et
    obtain ⟨dx, px, qx, fx3⟩ := rx.full
    obtain ⟨dy, py, qy, fy⟩ := ry.full
    have fx := fx3.ext e4
    have e24 := e3.trans e4
    have h14 := e24 _ _ h12
    have h24 := e24 _ _ h2
    refine q_when (b := false) (et_is (et_or (et_not (et_B (ev_call (z := .bl true) (ea_cons (ev_var rfl) (ea_cons (ev_var rfl) ea_nil)) fun H9 e9 Q9 q9 _ => ⟨x, r1, dx, px, qx, ss1, a1, b1, rfl, fx.ext e9, sq_of (e9 _ _ h14), rows1, G1', fun H' e' => q9 H' e'⟩)))
      (fun _ => et_not (et_B (ev_call (z := .bl true) (ea_cons (ev_var rfl) (ea_cons (ev_var rfl) ea_nil)) fun H9 e9 Q9 q9 _ => ⟨y, r2, dy, py, qy, ss2, a2, b2, rfl, fy.ext e9, sq_of (e9 _ _ h24), rows2, G2', fun H' e' => q9 H' e'⟩)))) rfl) (fun z => nomatch z) fun _ H5 e5 => ?_
    refine q_asg (ev_eqD (d := strsD ss1) (e := strsD ss2) (ev_var rfl) (ev_var rfl) (.lst (sq_of (e5 _ _ h14)) (dp_strs ss1)) (.lst (sq_of (e5 _ _ h24)) (dp_strs ss2)) (strs_shaped G1'.oks) (strs_shaped G2'.oks)) fun H6 e6 => ?_
    have e46 := e5.trans e6
    have fx6 := fx.ext e46
    have fy6 := fy.ext e46
    have h16 := e46 _ _ h14
    have rfl1 : PyData.eqv (rowsD ss1) (rowsD ss1) = true := PySem.SeqAt.eqv_refl _ (strs_lay G1'.oks).1
    have sb := same_bools (PyData.eqv (rowsD ss1) (rowsD ss2))
    refine q_when (b := false) (et_is (et_test (ev_neLL (bs := [PyData.eqv (rowsD ss1) (rowsD ss2), !PyData.eqv (rowsD ss1) (rowsD ss2), true]) (cs := [PyData.eqv (rowsD ss1) (rowsD ss2), !PyData.eqv (rowsD ss1) (rowsD ss2), true])
      (el_lst (ea_cons (ev_op (ev_var rfl) (ev_var rfl) (rv_eqO Y.R Y.I fx6 G1' fy6 G2')) (ea_cons (ev_op (ev_var rfl) (ev_var rfl) (rv_neO Y.R Y.I fx6 G1' fy6 G2')) (ea_cons (fun H9 e9 Q9 q9 => ?_) ea_nil))) (Nat.le_of_ble_eq_true rfl))
      (el_lst (ea_cons (ev_var rfl) (ea_cons (ev_notV (ev_var rfl)) (ea_cons ev_c ea_nil))) (Nat.le_of_ble_eq_true rfl)) sb.2 sb.2)) sb.1) (fun z => nomatch z) fun _ H7 e7 => ?_
    · refine ⟨.ref x, rfl, rfl, ⟨_, rfl⟩, .ref r1, rfl, _, r1, ss1, rfl, rfl, .inl (sq_of (e9 _ _ h16)), G1'.join, Txt.join "\n" ss1, a1, b1, rfl, G1'.joined, ?_⟩
      rw [rows1.back]
      refine ⟨G1', fun z H10 nz e10 rz => ?_⟩
      obtain ⟨dz, pz, qz, fz⟩ := rz.full
      have q := rv_eqO (E := E0) Y.R Y.I (fx6.ext (e9.trans e10)) G1' fz G1' H10 (Ex.refl H10) Q9
      rw [rfl1] at q
      exact q fun H11 e11 => q9 H11 (e10.trans e11)
    · have e67 := e7
      have fx7 := fx6.ext e7
      have h17 := e7 _ _ h16
      refine s_ret (v := .bl true) (ev_is (ev_notV (ev_anyL (bs := List.replicate 6 false) (el_is (el_lcNL (xs := [.non, .str (Txt.join "\n" ss1), .ref px, .int a1, .int ((ss1.length - 1 : Nat) : Int), .ref r1]) (fun _ => true) (fun _ => .bl false)
        (el_lst (ea_cons ev_c (ea_cons (ev_prop (g := fun _ ss _ _ => .str (Txt.join "\n" ss)) (ev_var rfl) fx7 G1') (ea_cons (ev_prop (g := fun p _ _ _ => .ref p) (ev_var rfl) fx7 G1') (ea_cons (ev_prop (g := fun _ _ a _ => .int a) (ev_var rfl) fx7 G1')
          (ea_cons (ev_lenO (n := ss1.length - 1) rfl (by have := G1'.seven; omega) (ev_var rfl) fx7 G1') (ea_cons (ev_var rfl) ea_nil)))))) (Nat.le_of_ble_eq_true rfl)) (by show 6 ≤ 40000; decide) (fun _ => rfl) (fun _ _ _ _ _ => ev_yes)
        (fun i v H8 e8 hv _ => ev_op (ev_var rfl) (ev_var rfl) ?_)) (given_f 6)))) rfl) fun H8 e8 => fin H8 (((e24.trans e46).trans e7).trans e8)
      have f8 := fx7.ext e8
      have h18 := e8 _ _ h17
      match i, hv with
      | 0, hv => obtain rfl := Option.some.inj hv; exact rv_eqN TS f8 G1' (t := "NoneType") (by decide) fun H9 e9 => .base .non
      | 1, hv => obtain rfl := Option.some.inj hv; exact rv_eqN TS f8 G1' (t := "str") (by decide) fun H9 e9 => .base (.str _)
      | 2, hv => obtain rfl := Option.some.inj hv; exact rv_eqN TS f8 G1' (t := "tuple") (by decide) fun H9 e9 => .base (.tup (e9 _ _ f8.2.1))
      | 3, hv => obtain rfl := Option.some.inj hv; exact rv_eqN TS f8 G1' (t := "int") (by decide) fun H9 e9 => .base (.int _)
      | 4, hv => obtain rfl := Option.some.inj hv; exact rv_eqN TS f8 G1' (t := "int") (by decide) fun H9 e9 => .base (.int _)
      | 5, hv => obtain rfl := Option.some.inj hv; exact rv_eqN TS f8 G1' (t := "list") (by decide) fun H9 e9 => .base (.lst (e9 _ _ h18))
end
end PW
namespace PW
open PySem PySem.Spec PyProof.Rows L2 Evl
/-! ### law -/
def rowsL : List Str := ["plates 10 away 2", "take 0 to 6 back under 9 turned", "take 6 to 6 back top kept", "cut 9", "turn", "rest", "cut 1"]
def rows0 : List Str := ["plates 2 away 0", "rest"]
def rows1 : List Str := ["plates 2 away 1", "rest"]
theorem rowsL_ok : Rows rowsL := ⟨by decide, by decide, by decide +kernel, fun i h1 h2 => (show ∀ j, j < 7 → 1 ≤ j → rowsL.getD j "" ∈ daysW by decide +kernel) i h2 h1⟩
theorem rows0_ok : Rows rows0 := ⟨by decide, by decide, by decide +kernel, fun i h1 h2 => (show ∀ j, j < 2 → 1 ≤ j → rows0.getD j "" ∈ daysW by decide +kernel) i h2 h1⟩
theorem rows1_ok : Rows rows1 := ⟨by decide, by decide, by decide +kernel, fun i h1 h2 => (show ∀ j, j < 2 → 1 ≤ j → rows1.getD j "" ∈ daysW by decide +kernel) i h2 h1⟩
theorem rows01 : PyData.eqv (rowsD rows0) (rowsD rows1) = false := by decide +kernel
abbrev sLaw : Stmt := top 32
theorem scLaw : FnScope ["_law_script", "_law_some", "_law_k"] ["_law_script"] (defScope sLaw) := ⟨rfl, rfl, rfl, by decide +kernel, rfl, by decide +kernel, by decide +kernel⟩
def spLaw (K : PySem.W.Frag) : Sp := fun vs H Q _ => ∃ (a : Addr) (ns : List Int), vs = [.ref a] ∧ SqL K H a (ns.map V.int) ∧ ns.length ≤ 63 ∧ ∀ H', Q (.bl true) H'
theorem bMax : bootBuiltins "max" = some (.builtin "max") := by decide +kernel
theorem bMin : bootBuiltins "min" = some (.builtin "min") := by decide +kernel
theorem bAll : bootBuiltins "all" = some (.builtin "all") := by decide +kernel
def rMin2 : List V → Hp → VK → Prop := fun xs H Q => ∃ i j, xs = [.int i, .int j] ∧ Q (.int (if j < i then j else i)) H
theorem ev_min2 {ta tb : TE} {σ : L2.St} {H : Hp} {i j : Int} (ha : Ev ta σ H (.int i)) (hb : Ev tb σ H (.int j)) : Ev (tCB rMin2 (tCons ta (tCons tb tNil))) σ H (.int (if j < i then j else i)) :=
  ev_cb (ea_cons ha (ea_cons hb ea_nil)) fun H1 _ Q q => ⟨i, j, rfl, q H1 (Ex.refl H1)⟩
section
variable {P : Program} {w : World} {K : PySem.W.Frag} {mg : Str → Option Value} {base : Heap} {C CD fI fR pR CR : Addr} {mc : Value} {dR : FuncData} {g : Nat → Addr} {gd : Nat → FuncData} {pr : Nat → Addr}
  {fr fb fs fm : Addr} {dr db ds dm : FuncData}
theorem ok_law {f frt fp : Addr} {fd drt dp : FuncData} (F : Fun K "law" "law" sLaw f fd) (B : Blt mg) (Y : Cl K mg C fI fR pR CR mc dR) (N : Ms K C g gd pr) (Z : Lw K mg fr fb fs fm dr db ds dm)
    (GI : FnR P w K mg base CX0 5 fI (spStar C CD)) (GM : FnOk P w K mg base CX0 8 fm dm ["_law_rows_now"] (spMade K C CD)) (GS : FnG P w K mg base CX0 10 fs ds ["_law_mine", "_law_some"] (spShows K C))
    (mR : mg "_law_right" = some (.ref frt)) (kR : PySem.W.keepIn K (.ref frt) = true) (bR : Binds K drt ["_law_spring_here"] []) (GR : FnG P w K mg base CX0 11 frt drt ["_law_spring_here"] spRight)
    (mP : mg "_law_spring" = some (.ref fp)) (kP : PySem.W.keepIn K (.ref fp) = true) (bP : Binds K dp ["_law_cells", "_law_k"] []) (GP : FnOk P w K mg base CX0 11 fp dp ["_law_cells", "_law_k"] (spSpring K)) :
    FnG P w K mg base CX0 12 f fd ["_law_script"] (spLaw K) := by
  have GE : FnR P w K mg base CX0 4 (g 7) (spEq K C) := toR (ok_Eq (j := 3) N.F7 B Y.R Y.I Y.m) N.b7
  refine okG F scLaw (fun vs H Q E h => ?_) (fun cdv A outer s H vs Q E' st hr h => ?_)
  · obtain ⟨a, ns, rfl, _⟩ := h
    rfl
  · obtain ⟨a, ns, rfl, hS, hlen, k⟩ := h
    have hr4 := hr.mono (j := 4) (by decide)
    have hr6 := hr.mono (j := 6) (by decide)
    have hr8 := hr.mono (j := 8) (by decide)
    have hr10 := hr.mono (j := 10) (by decide)
    refine ⟨_, (pss_cons (ps_set (i := 1) scLaw.nd rfl (.inl rfl) (pe_lst (pa_cons pe_str (pa_cons pe_str (pa_cons pe_str (pa_cons pe_str (pa_cons pe_str (pa_cons pe_str (pa_cons pe_str pa_nil)))))))))
      (pss_cons (ps_if (pw_or (pt_not (pt_val (pe_callG GS st hr10 (by rfl) Z.ms Z.ks Z.bs .nil pass0 (pa_cons (pe_call GM hr8 (by rfl) Z.mm Z.km Z.bm .nil pass0 (pa_cons (pv 1) pa_nil)) (pa_cons (pv 1) pa_nil))))) (pw_or1 (pt_cmpR (op_eqO N.s7 N.i7 GE hr4 pass0) (StX.pe_makeR Y.M GI hr6 (by rfl) Y.m pass0 (pa_cons pe_str (pa_cons pe_str pa_nil))) (StX.pe_makeR Y.M GI hr6 (by rfl) Y.m pass0 (pa_cons pe_str (pa_cons pe_str pa_nil))) (nomark _)))).pt (pss_one (ps_ret pe_bl)) pss_nil)
      (pss_one (ps_ret (pe_callB (cr_all rfl) (by rfl) B.all bAll (pa_cons (pe_lc (own := [("_law_k", 2)]) (g := gName 2) (tt := tYes) rfl scLaw.nd (pi_range1 rfl B.range (pa_cons (pe_callB (call_max2 rfl) (by rfl) B.max bMax (pa_cons pe_int (pa_cons (pe_callB (call_min2 rfl) (by rfl) B.min bMin (pa_cons (pe_callB call_len_seq (by rfl) B.len PySem.boot_len (pa_cons (pv 0) pa_nil)) (pa_cons pe_int pa_nil))) pa_nil))) pa_nil)) (blkOk_by (N := ["_law_script", "_law_some", "_law_k"]) (sc := defScope sLaw) (by decide +kernel)) (fun _ _ _ _ _ => pg_name (i := 2) scLaw.nd rfl (Or.inl rfl)) (fun _ _ _ _ _ => pts_nil) (fun _ _ _ _ _ => (pe_callG GR st hr (by rfl) mR kR bR .nil pass0 (pa_cons (pe_call GP hr (by rfl) mP kP bP .nil pass0 (pa_cons (pv 0) (pa_cons (pv 2) pa_nil))) pa_nil)))) pa_nil)))))), ?_⟩
    obtain ⟨aL, bL, GL⟩ := rowsL_ok.good
    obtain ⟨a0, b0, G0⟩ := rows0_ok.good
    obtain ⟨a1, b1, G1⟩ := rows1_ok.good
    refine q_asgL (xs := rowsL.map V.str) (el_lst (ea_cons ev_c (ea_cons ev_c (ea_cons ev_c (ea_cons ev_c (ea_cons ev_c (ea_cons ev_c (ea_cons ev_c ea_nil))))))) (Nat.le_of_ble_eq_true rfl)) fun r H1 n1 e1 h1 => ?_
    refine q_when (b := false) (et_is (et_or (a := false) (b := false) (et_is (a := !true) (et_not (et_B (fun H9 e9 Q9 q9 => ?_))) rfl) (fun _ => et_test (fun H9 e9 Q9 q9 => ?_))) rfl) (fun z => nomatch z) fun _ H5 e5 => ?_
    · refine ⟨.ref r, rfl, r, rowsL, aL, bL, rfl, sq_of (e9 _ _ h1), rowsL_ok, GL, fun x H10 nx e10 rx => ?_⟩
      obtain ⟨dx, px, qx, fx⟩ := rx.full
      exact ⟨.ref r, rfl, x, r, dx, px, qx, rowsL, aL, bL, rfl, fx, sq_of (e10 _ _ (e9 _ _ h1)), rowsL_ok, GL, fun H' e' => q9 H' (e10.trans e')⟩
    · refine mk_ev (ss := rows0) (ea_cons ev_c (ea_cons ev_c ea_nil)) G0 fun x H10 nx e10 rx => ?_
      refine mk_ev (ss := rows1) (ea_cons ev_c (ea_cons ev_c ea_nil)) G1 fun y H11 ny e11 ry => ?_
      obtain ⟨dx, px, qx, fx⟩ := rx.full
      obtain ⟨dy, py, qy, fy⟩ := ry.full
      have q := rv_eqO (E := E0) Y.R Y.I (fx.ext e11) G0 fy G1 H11 (Ex.refl H11) Q9
      rw [rows01] at q
      exact q fun H12 e12 => q9 H12 ((e10.trans e11).trans e12)
    have hS5 : SqL K H5 a (ns.map V.int) := ex_l (e1.trans e5) hS
    have len : ((ns.map V.int).length : Int) ≤ 63 := by rw [List.length_map]; omega
    obtain ⟨n, hn, hb⟩ : ∃ n : Int, (if (if (5 : Int) < ((ns.map V.int).length : Int) then (5 : Int) else ((ns.map V.int).length : Int)) > 2 then (if (5 : Int) < ((ns.map V.int).length : Int) then (5 : Int) else ((ns.map V.int).length : Int)) else 2) = n ∧ 0 ≤ n ∧ n ≤ 5 := by
      refine ⟨_, rfl, ?_⟩
      split <;> split <;> omega
    have arg : EvA (tCons (tCB rMax2 (tCons (tC (.int 2)) (tCons (tCB rMin2 (tCons (tCB (rLenS K) (tCons (tVar 0) tNil)) (tCons (tC (.int 5)) tNil))) tNil))) tNil)
        [some (.ref a), some (.ref r), none] H5 [.int n] := by
      rw [← hn]
      exact ea_cons (ev_max2 ev_c (ev_min2 (ev_len (ev_var rfl) hS5) ev_c)) ea_nil
    refine s_ret (v := .bl true) (ev_is (ev_allL (bs := List.replicate n.toNat true) (el_is (el_lcR1 (n := n) (fun _ => true) (fun _ => .bl true) arg ⟨hb.1, by omega⟩ (fun _ => rfl) (fun _ _ _ _ => ev_yes) (fun i H8 e8 hi _ => ?_)) (given_t _))) (by simp)) fun H9 _ => k H9
    intro H7 e7 Q7 q7
    refine ⟨.ref a, rfl, .int (i : Int), rfl, a, ns, i, rfl, ex_l (e8.trans e7) hS5, by omega, by omega, fun p H6 hp e6 sp => ⟨p, rfl, sp, fun H' but => q7 H' (fun b o e => but b o ?_ (e6 b o e))⟩⟩
    rintro rfl
    rw [hp] at e
    cases e
end
end PW
namespace PW
open PySem PySem.Spec PyProof.Rows L2 Evl
/-! ### what the top has written -/
def isB (o : Option (Option Value)) (s : String) : Bool := match o with | some (some (.builtin t)) => t == s | _ => false
theorem of_isB {o : Option (Option Value)} {s : String} (h : isB o s = true) : o = some (some (.builtin s)) := by
  unfold isB at h
  split at h
  · rw [beq_iff_eq.mp h]
  · cases h
def isN (o : Option (Option Value)) : Bool := match o with | some none => true | _ => false
theorem of_isN {o : Option (Option Value)} (h : isN o = true) : o = some none := by
  unfold isN at h
  split at h
  · rfl
  · cases h
def isR (o : Option (Option Value)) (a : Addr) : Bool := match o with | some (some (.ref b)) => b == a | _ => false
theorem of_isR {o : Option (Option Value)} {a : Addr} (h : isR o a = true) : o = some (some (.ref a)) := by
  unfold isR at h
  split at h
  · rw [beq_iff_eq.mp h]
  · cases h
def isI (o : Option (Option Value)) (i : Int) : Bool := match o with | some (some (.int j _)) => j == i | _ => false
theorem of_isI {o : Option (Option Value)} {i : Int} (h : isI o i = true) : ∃ t, o = some (some (.int i t)) := by
  unfold isI at h
  split at h
  · rename_i j t
    rw [beq_iff_eq.mp h]
    exact ⟨t, rfl⟩
  · cases h
def isT (o : Option Value) (s : String) : Bool := match o with | some (.type t) => t == s | _ => false
theorem of_isT {o : Option Value} {s : String} (h : isT o s = true) : o = some (.type s) := by
  unfold isT at h
  split at h
  · rw [beq_iff_eq.mp h]
  · cases h
theorem all_range {n : Nat} {p : Nat → Bool} (h : (List.range n).all p = true) (i : Nat) (hi : i < n) : p i = true :=
  List.all_eq_true.mp h i (List.mem_range.mpr hi)
def xcOk (K : PySem.W.Frag) (C : Addr) (bm : List Value) (nid : String) : Bool :=
  PySem.W.excInitIn K C bm nid && (PySem.W.excOver K C bm && (isB (PySem.W.findIn K (.ref C) "__setattr__") "object.__setattr__" &&
  (isB (PySem.W.findIn K (.ref C) "__getattribute__") "BaseException.__getattribute__" && (isN (PySem.W.findIn K (.ref C) "__getattr__") &&
  (PySem.W.subIn K (.ref C) (.type "BaseException") == some true && (PySem.W.keepIn K (.ref C) && (PySem.W.hasDictIn K C &&
  ((PySem.W.clsIn K C).isSome && (isB (PySem.W.findIn K (.ref C) "__class__") "object.__class__" && PySem.W.mroIn K C (.type "object") == some true)))))))))
theorem xc_of {K : PySem.W.Frag} {C : Addr} {B n i : String} {bm : List Value} (bf : ExcBaseFacts B n i bm) (sf : PySem.StoreFacts B bm "object.__setattr__" "object")
    (h : xcOk K C bm n = true) : XC K C := by
  unfold xcOk at h
  simp only [Bool.and_eq_true] at h
  obtain ⟨h1, h2, h3, h4, h5, h6, h7, h8, h9, h10, h11⟩ := h
  exact ⟨⟨B, n, i, bm, bf, sf, h1, h2⟩, of_isB h3, of_isB h4, of_isN h5, beq_iff_eq.mp h6, h7, h8, h9, of_isB h10, beq_iff_eq.mp h11⟩

def frW (i : Nat) : Str := (["len", "int", "abs", "divmod", "repr", "isinstance", "all", "range", "max", "min", "str", "bool", "any", "tuple"] : List Str).getD i ""
def lmW (i : Nat) : Str := (["MOST_PLATES", "MOST_AWAY", "MOST_DAYS", "MOST_TAKEN", "MOST_UNDER"] : List Str).getD i ""
def lvW (i : Nat) : Int := ([10, 2, 6, 6, 9] : List Int).getD i 0
def fnW (i : Nat) : Str := (["read_number", "read_first", "read_depth", "read_cut", "read_take", "read_day", "_law_spring", "_law_draw", "_law_of", "_law_take", "_law_rows", "_law_made", "_law_head", "_law_by_rows", "_law_shows", "_law_right", "law"] : List Str).getD i ""
def faW (i : Nat) : Addr := ([28, 135, 77, 63, 70, 56, 238, 245, 252, 259, 266, 273, 280, 287, 294, 299, 304] : List Nat).getD i 0
def gAW (i : Nat) : Addr := ([164, 172, 180, 188, 203, 217, 224, 210] : List Nat).getD i 0
def prW (i : Nat) : Addr := ([165, 173, 181, 189] : List Nat).getD i 0
def tyW (i : Nat) : String := (["NoneType", "str", "tuple", "int", "list"] : List String).getD i ""
def dfW (i : Nat) : Str := (["word", "least", "most", "depth", "turned"] : List Str).getD i ""
def tabF (K : PySem.W.Frag) : Bool := (List.range 14).all fun i => isN (PySem.W.nsIn K mainGlobals (frW i))
def tabL (K : PySem.W.Frag) : Bool := (List.range 5).all fun i => isI (PySem.W.nsIn K mainGlobals (lmW i)) (lvW i)
def tabN (K : PySem.W.Frag) : Bool := (List.range 17).all fun i => isR (PySem.W.nsIn K mainGlobals (fnW i)) (faW i) && PySem.W.keepIn K (.ref (faW i))
def tabT (K : PySem.W.Frag) : Bool := (List.range 5).all fun i => PySem.W.notFirst K 227 (.type (tyW i)) && PySem.W.kitOne K (.type (tyW i)) (.ref 227) == some false
def tabD (K : PySem.W.Frag) : Bool := (List.range 5).all fun i => isN (PySem.W.findIn K (.ref 45) (dfW i))
theorem and1 {a b : Bool} (h : (a && b) = true) : a = true := (Bool.and_eq_true_iff.mp h).1
theorem and2 {a b : Bool} (h : (a && b) = true) : b = true := (Bool.and_eq_true_iff.mp h).2
section
variable {K : PySem.W.Frag} {fd : FuncData} {f : Addr}
theorem bindsR (F : Fun K "read" "Rule.read" sRead f fd) : Binds K fd ["cls", "text"] [] := F.binds (ps := ["cls", "text"]) fun _ _ _ _ _ _ us hl => match us, hl with | [_, _], _ => rfl
theorem bindsD (F : Fun K "__init__" "Day.__init__" sDayI f fd) : Binds K fd ["self", "word", "least", "most", "depth", "turned"] [] := F.binds (ps := ["self", "word", "least", "most", "depth", "turned"]) fun _ _ _ _ _ _ us hl => match us, hl with | [_, _, _, _, _, _], _ => rfl
theorem b_read_number (F : Fun K "read_number" "read_number" sNum f fd) : Binds K fd ["word", "least", "most"] [] := F.binds (ps := ["word", "least", "most"]) fun _ _ _ _ _ _ us hl => match us, hl with | [_, _, _], _ => rfl
theorem b_read_first (F : Fun K "read_first" "read_first" sFirst f fd) : Binds K fd ["row"] [] := F.binds (ps := ["row"]) fun _ _ _ _ _ _ us hl => match us, hl with | [_], _ => rfl
theorem b_read_depth (F : Fun K "read_depth" "read_depth" sDepth f fd) : Binds K fd ["words"] [] := F.binds (ps := ["words"]) fun _ _ _ _ _ _ us hl => match us, hl with | [_], _ => rfl
theorem b_read_cut (F : Fun K "read_cut" "read_cut" sCut f fd) : Binds K fd ["words"] [] := F.binds (ps := ["words"]) fun _ _ _ _ _ _ us hl => match us, hl with | [_], _ => rfl
theorem b_read_take (F : Fun K "read_take" "read_take" sTake f fd) : Binds K fd ["words"] [] := F.binds (ps := ["words"]) fun _ _ _ _ _ _ us hl => match us, hl with | [_], _ => rfl
theorem b_read_day (F : Fun K "read_day" "read_day" sDay f fd) : Binds K fd ["row"] [] := F.binds (ps := ["row"]) fun _ _ _ _ _ _ us hl => match us, hl with | [_], _ => rfl
theorem b__law_spring (F : Fun K "_law_spring" "_law_spring" sSpring f fd) : Binds K fd ["_law_cells", "_law_k"] [] := F.binds (ps := ["_law_cells", "_law_k"]) fun _ _ _ _ _ _ us hl => match us, hl with | [_, _], _ => rfl
theorem b__law_draw (F : Fun K "_law_draw" "_law_draw" sDraw f fd) : Binds K fd ["_law_spring_here", "_law_size"] [] := F.binds (ps := ["_law_spring_here", "_law_size"]) fun _ _ _ _ _ _ us hl => match us, hl with | [_, _], _ => rfl
theorem b__law_of (F : Fun K "_law_of" "_law_of" sOf f fd) : Binds K fd ["_law_spring_here", "_law_menu"] [] := F.binds (ps := ["_law_spring_here", "_law_menu"]) fun _ _ _ _ _ _ us hl => match us, hl with | [_, _], _ => rfl
theorem b__law_take (F : Fun K "_law_take" "_law_take" sTakeL f fd) : Binds K fd ["_law_spring_here", "_law_many"] [] := F.binds (ps := ["_law_spring_here", "_law_many"]) fun _ _ _ _ _ _ us hl => match us, hl with | [_, _], _ => rfl
theorem b__law_rows (F : Fun K "_law_rows" "_law_rows" sRowsL f fd) : Binds K fd ["_law_spring_here"] [] := F.binds (ps := ["_law_spring_here"]) fun _ _ _ _ _ _ us hl => match us, hl with | [_], _ => rfl
theorem b__law_made (F : Fun K "_law_made" "_law_made" sMade f fd) : Binds K fd ["_law_rows_now"] [] := F.binds (ps := ["_law_rows_now"]) fun _ _ _ _ _ _ us hl => match us, hl with | [_], _ => rfl
theorem b__law_head (F : Fun K "_law_head" "_law_head" sHead f fd) : Binds K fd ["_law_rows_now"] [] := F.binds (ps := ["_law_rows_now"]) fun _ _ _ _ _ _ us hl => match us, hl with | [_], _ => rfl
theorem b__law_by_rows (F : Fun K "_law_by_rows" "_law_by_rows" sBy f fd) : Binds K fd ["_law_some"] [] := F.binds (ps := ["_law_some"]) fun _ _ _ _ _ _ us hl => match us, hl with | [_], _ => rfl
theorem b__law_shows (F : Fun K "_law_shows" "_law_shows" sShows f fd) : Binds K fd ["_law_mine", "_law_some"] [] := F.binds (ps := ["_law_mine", "_law_some"]) fun _ _ _ _ _ _ us hl => match us, hl with | [_, _], _ => rfl
theorem b__law_right (F : Fun K "_law_right" "_law_right" sRight f fd) : Binds K fd ["_law_spring_here"] [] := F.binds (ps := ["_law_spring_here"]) fun _ _ _ _ _ _ us hl => match us, hl with | [_], _ => rfl
theorem b_law (F : Fun K "law" "law" sLaw f fd) : Binds K fd ["_law_script"] [] := F.binds (ps := ["_law_script"]) fun _ _ _ _ _ _ us hl => match us, hl with | [_], _ => rfl
theorem m_rows (F : Fun K "rows" "Rule.rows" sRows f fd) : Binds K fd ["self"] [] := F.binds (ps := ["self"]) fun _ _ _ _ _ _ us hl => match us, hl with | [_], _ => rfl
theorem m_text (F : Fun K "text" "Rule.text" sText f fd) : Binds K fd ["self"] [] := F.binds (ps := ["self"]) fun _ _ _ _ _ _ us hl => match us, hl with | [_], _ => rfl
theorem m_plates (F : Fun K "plates" "Rule.plates" sPlates f fd) : Binds K fd ["self"] [] := F.binds (ps := ["self"]) fun _ _ _ _ _ _ us hl => match us, hl with | [_], _ => rfl
theorem m_away (F : Fun K "away" "Rule.away" sAway f fd) : Binds K fd ["self"] [] := F.binds (ps := ["self"]) fun _ _ _ _ _ _ us hl => match us, hl with | [_], _ => rfl
theorem m___len__ (F : Fun K "__len__" "Rule.__len__" sLen f fd) : Binds K fd ["self"] [] := F.binds (ps := ["self"]) fun _ _ _ _ _ _ us hl => match us, hl with | [_], _ => rfl
theorem m___str__ (F : Fun K "__str__" "Rule.__str__" sStr f fd) : Binds K fd ["self"] [] := F.binds (ps := ["self"]) fun _ _ _ _ _ _ us hl => match us, hl with | [_], _ => rfl
theorem m___repr__ (F : Fun K "__repr__" "Rule.__repr__" sRepr f fd) : Binds K fd ["self"] [] := F.binds (ps := ["self"]) fun _ _ _ _ _ _ us hl => match us, hl with | [_], _ => rfl
theorem m___eq__ (F : Fun K "__eq__" "Rule.__eq__" sEq f fd) : Binds K fd ["self", "other"] [] := F.binds (ps := ["self", "other"]) fun _ _ _ _ _ _ us hl => match us, hl with | [_, _], _ => rfl
theorem bind_script (F : Fun K "law" "law" sLaw f fd) (s : Shared) (u : Value) : BindsTo s fd ⟨[u], []⟩ [("_law_script", u)] := by
  obtain ⟨_, _, _, _, _, _, _, _, _, rfl, _, _⟩ := F.ex
  exact .of_eq rfl
end
theorem all_mk {l : PySem.W.OpenLaw} {w : World} {K : PySem.W.Frag} {h : Heap} {mg : Str → Option Value} {fa : Addr} {rest rest0 rest1 rest2 rest3 : List Value} (X : K.In h) (G : h.Ns mainGlobals mg) (hfa : mg "law" = some (.ref fa))
    (tF : tabF K = true)
    (tL : tabL K = true)
    (tN : tabN K = true)
    (tT : tabT K = true)
    (tD : tabD K = true)
    (hC : isR (PySem.W.nsIn K mainGlobals "Rule") 227 = true)
    (hCR : isR (PySem.W.nsIn K mainGlobals "InvalidRows") 126 = true)
    (hCD : isR (PySem.W.nsIn K mainGlobals "Day") 45 = true)
    (pg : PySem.W.plainGet K 227 Str.empty = true)
    (hd : PySem.W.hasDictIn K 227 = true)
    (po : PySem.W.plainOver K 227 = true)
    (sa : PySem.W.findIn K (.ref 227) "__setattr__" = some (some (.builtin "object.__setattr__")))
    (n0 : PySem.W.findIn K (.ref 227) "_rows" = some none)
    (n1 : PySem.W.findIn K (.ref 227) "days" = some none)
    (n2 : PySem.W.findIn K (.ref 227) "_plates" = some none)
    (n3 : PySem.W.findIn K (.ref 227) "_away" = some none)
    (ha : PySem.W.findIn K (.ref 227) "__class__" = some (some (.builtin "object.__class__")))
    (hn : PySem.W.specialIn K (.builtin "object.__class__") "__get__" = some (some (.builtin "getset_descriptor.__get__")))
    (htk : PySem.W.takesIn K (.builtin "object.__class__") = some true)
    (hm : PySem.W.mroIn K 227 (.type "object") = some true)
    (mk : PySem.W.makesIn K 227 = true)
    (mi : PySem.W.findIn K (.ref 227) "__init__" = some (some (.ref 147)))
    (mf : PySem.W.isFn K (.ref 147) = true)
    (kp : PySem.W.keepIn K (.ref 227) = true)
    (rd : PySem.W.readsIn K 227 (.type "type") = true)
    (ga : PySem.W.specialIn K (.ref 227) "__getattribute__" = some (some (.builtin "type.__getattribute__")))
    (cm : PySem.W.findCls K (.ref 227) (.type "type") "read" = some (.get (.builtin "classmethod.__get__") (.ref 156) .none (.ref 227)))
    (rc : PySem.W.recIn K 156 "classmethod" = some (.ref 154 :: rest))
    (rf : PySem.W.fnIn K 154 = true)
    (pa0 : PySem.W.findIn K (.ref 227) "rows" = some (some (.ref 165)))
    (pb0 : PySem.W.specialIn K (.ref 165) "__get__" = some (some (.builtin "property.__get__")))
    (pc0 : PySem.W.takesIn K (.ref 165) = some true)
    (pd0 : PySem.W.recIn K 165 "property" = some (.ref 164 :: rest0))
    (pa1 : PySem.W.findIn K (.ref 227) "text" = some (some (.ref 173)))
    (pb1 : PySem.W.specialIn K (.ref 173) "__get__" = some (some (.builtin "property.__get__")))
    (pc1 : PySem.W.takesIn K (.ref 173) = some true)
    (pd1 : PySem.W.recIn K 173 "property" = some (.ref 172 :: rest1))
    (pa2 : PySem.W.findIn K (.ref 227) "plates" = some (some (.ref 181)))
    (pb2 : PySem.W.specialIn K (.ref 181) "__get__" = some (some (.builtin "property.__get__")))
    (pc2 : PySem.W.takesIn K (.ref 181) = some true)
    (pd2 : PySem.W.recIn K 181 "property" = some (.ref 180 :: rest2))
    (pa3 : PySem.W.findIn K (.ref 227) "away" = some (some (.ref 189)))
    (pb3 : PySem.W.specialIn K (.ref 189) "__get__" = some (some (.builtin "property.__get__")))
    (pc3 : PySem.W.takesIn K (.ref 189) = some true)
    (pd3 : PySem.W.recIn K 189 "property" = some (.ref 188 :: rest3))
    (s0 : PySem.W.findIn K (.ref 227) "__len__" = some (some (.ref 203)))
    (i0 : PySem.W.isFn K (.ref 203) = true)
    (s1 : PySem.W.findIn K (.ref 227) "__str__" = some (some (.ref 217)))
    (i1 : PySem.W.isFn K (.ref 217) = true)
    (s2 : PySem.W.findIn K (.ref 227) "__repr__" = some (some (.ref 224)))
    (i2 : PySem.W.isFn K (.ref 224) = true)
    (s3 : PySem.W.findIn K (.ref 227) "__eq__" = some (some (.ref 210)))
    (i3 : PySem.W.isFn K (.ref 210) = true)
    (nb : PySem.W.findIn K (.ref 227) "__bool__" = some none)
    (ne : PySem.W.findIn K (.ref 227) "__ne__" = some (some (.builtin "object.__ne__")))
    (dg : PySem.W.plainGet K 45 Str.empty = true)
    (dh : PySem.W.hasDictIn K 45 = true)
    (dov : PySem.W.plainOver K 45 = true)
    (ds : PySem.W.findIn K (.ref 45) "__setattr__" = some (some (.builtin "object.__setattr__")))
    (dmk : PySem.W.makesIn K 45 = true)
    (dmi : PySem.W.findIn K (.ref 45) "__init__" = some (some (.ref 42)))
    (dmf : PySem.W.isFn K (.ref 42) = true)
    (dkp : PySem.W.keepIn K (.ref 45) = true)
    (dob : PySem.W.mroIn K 45 (.type "object") = some true)
    (deq : PySem.W.findIn K (.ref 45) "__eq__" = some (some (.builtin "object.__eq__")))
    (bx : xcOk K 126 [.type "ValueError", .type "Exception", .type "BaseException", .type "object"] "ValueError.__new__" = true)
    (bn : PySem.W.findIn K (.ref 126) "index" = some none)
    (bi : PySem.W.findIn K (.ref 126) "__init__" = some (some (.ref 123)))
    (bt : PySem.W.typeIn K (.ref 123) = some (.type "function"))
    (bs : PySem.W.subIn K (.ref 126) (.type "BaseException") = some true)
    (bty : PySem.W.typeIn K (.ref 126) = some (.type "type"))
    (F0 : ∃ fd, Fun K "read_number" "read_number" sNum 28 fd)
    (F1 : ∃ fd, Fun K "read_first" "read_first" sFirst 135 fd)
    (F2 : ∃ fd, Fun K "read_depth" "read_depth" sDepth 77 fd)
    (F3 : ∃ fd, Fun K "read_cut" "read_cut" sCut 63 fd)
    (F4 : ∃ fd, Fun K "read_take" "read_take" sTake 70 fd)
    (F5 : ∃ fd, Fun K "read_day" "read_day" sDay 56 fd)
    (F6 : ∃ fd, Fun K "_law_spring" "_law_spring" sSpring 238 fd)
    (F7 : ∃ fd, Fun K "_law_draw" "_law_draw" sDraw 245 fd)
    (F8 : ∃ fd, Fun K "_law_of" "_law_of" sOf 252 fd)
    (F9 : ∃ fd, Fun K "_law_take" "_law_take" sTakeL 259 fd)
    (F10 : ∃ fd, Fun K "_law_rows" "_law_rows" sRowsL 266 fd)
    (F11 : ∃ fd, Fun K "_law_made" "_law_made" sMade 273 fd)
    (F12 : ∃ fd, Fun K "_law_head" "_law_head" sHead 280 fd)
    (F13 : ∃ fd, Fun K "_law_by_rows" "_law_by_rows" sBy 287 fd)
    (F14 : ∃ fd, Fun K "_law_shows" "_law_shows" sShows 294 fd)
    (F15 : ∃ fd, Fun K "_law_right" "_law_right" sRight 299 fd)
    (F16 : ∃ fd, Fun K "law" "law" sLaw 304 fd)
    (M0 : ∃ fd, Fun K "rows" "Rule.rows" sRows 164 fd)
    (M1 : ∃ fd, Fun K "text" "Rule.text" sText 172 fd)
    (M2 : ∃ fd, Fun K "plates" "Rule.plates" sPlates 180 fd)
    (M3 : ∃ fd, Fun K "away" "Rule.away" sAway 188 fd)
    (M4 : ∃ fd, Fun K "__len__" "Rule.__len__" sLen 203 fd)
    (M5 : ∃ fd, Fun K "__str__" "Rule.__str__" sStr 217 fd)
    (M6 : ∃ fd, Fun K "__repr__" "Rule.__repr__" sRepr 224 fd)
    (M7 : ∃ fd, Fun K "__eq__" "Rule.__eq__" sEq 210 fd)
    (FI : ∃ fd, Fun K "__init__" "Rule.__init__" sInit 147 fd)
    (FR : ∃ fd, Fun K "read" "Rule.read" sRead 154 fd)
    (FD : ∃ fd, Fun K "__init__" "Day.__init__" sDayI 42 fd)
    (FB : ∃ fd, Fun K "__init__" "InvalidRows.__init__" sBad 123 fd) :
    ∃ fd : FuncData, (∀ (s : Shared) (u : Value), BindsTo s fd ⟨[u], []⟩ [("_law_script", u)]) ∧
      ∀ base : Heap, K.In base → base.Ns mainGlobals mg → (base.get? sysModules).isSome = true → FnG l.prog w K mg base CX0 12 fa fd ["_law_script"] (spLaw K) := by
  obtain ⟨d0, F0⟩ := F0
  obtain ⟨d1, F1⟩ := F1
  obtain ⟨d2, F2⟩ := F2
  obtain ⟨d3, F3⟩ := F3
  obtain ⟨d4, F4⟩ := F4
  obtain ⟨d5, F5⟩ := F5
  obtain ⟨d6, F6⟩ := F6
  obtain ⟨d7, F7⟩ := F7
  obtain ⟨d8, F8⟩ := F8
  obtain ⟨d9, F9⟩ := F9
  obtain ⟨d10, F10⟩ := F10
  obtain ⟨d11, F11⟩ := F11
  obtain ⟨d12, F12⟩ := F12
  obtain ⟨d13, F13⟩ := F13
  obtain ⟨d14, F14⟩ := F14
  obtain ⟨d15, F15⟩ := F15
  obtain ⟨d16, F16⟩ := F16
  obtain ⟨e0, M0⟩ := M0
  obtain ⟨e1, M1⟩ := M1
  obtain ⟨e2, M2⟩ := M2
  obtain ⟨e3, M3⟩ := M3
  obtain ⟨e4, M4⟩ := M4
  obtain ⟨e5, M5⟩ := M5
  obtain ⟨e6, M6⟩ := M6
  obtain ⟨e7, M7⟩ := M7
  obtain ⟨dI, FI⟩ := FI
  obtain ⟨dR, FR⟩ := FR
  obtain ⟨dD, FD⟩ := FD
  obtain ⟨dB, FB⟩ := FB
  have fr : ∀ i, i < 14 → mg (frW i) = none := fun i hi => PySem.W.mg_none_of X G (of_isN (all_range tF i hi))
  have tl : ∀ i, i < 5 → ∃ t, mg (lmW i) = some (.int (lvW i) t) := fun i hi => (of_isI (all_range tL i hi)).imp fun t e => PySem.W.mg_of X G e
  have ln : ∀ i, i < 17 → mg (fnW i) = some (.ref (faW i)) := fun i hi => PySem.W.mg_of X G (of_isR (and1 (all_range tN i hi)))
  have lk : ∀ i, i < 17 → PySem.W.keepIn K (.ref (faW i)) = true := fun i hi => and2 (all_range tN i hi)
  have dn : ∀ i, i < 5 → PySem.W.findIn K (.ref 45) (dfW i) = some none := fun i hi => of_isN (all_range tD i hi)
  have e := hfa.symm.trans (ln 16 (by decide))
  have e : fa = 304 := Value.ref.inj (Option.some.inj e)
  subst e
  have B : Blt mg := ⟨fr 0 (by decide), fr 1 (by decide), fr 2 (by decide), fr 3 (by decide), fr 4 (by decide), fr 5 (by decide), fr 6 (by decide), fr 7 (by decide), fr 8 (by decide), fr 9 (by decide), fr 10 (by decide), fr 11 (by decide), fr 12 (by decide), fr 13 (by decide)⟩
  have L : Lim mg := ⟨tl 0 (by decide), tl 1 (by decide), tl 2 (by decide), tl 3 (by decide), tl 4 (by decide)⟩
  have mC : mg "Rule" = some (.ref 227) := PySem.W.mg_of X G (of_isR hC)
  have mCR : mg "InvalidRows" = some (.ref 126) := PySem.W.mg_of X G (of_isR hCR)
  have mCD : mg "Day" = some (.ref 45) := PySem.W.mg_of X G (of_isR hCD)
  have R : Ru K 227 := ⟨⟨pg, hd, po, sa⟩, n0, n1, n2, n3⟩
  have I : IsC K 227 := ⟨ha, hn, htk, hm⟩
  have MkC : Mk K 227 147 := ⟨mk, mi, mf, kp⟩
  have Y : Cl K mg 227 147 154 156 126 (.type "type") dR := ⟨R, I, mC, MkC, ⟨rd, ga⟩, ⟨cm, ⟨rest, rc⟩, rf⟩, FR, bindsR FR, mCR⟩
  have N : Ms K 227 gAW (fun i => [e0, e1, e2, e3, e4, e5, e6, e7].getD i e0) prW := ⟨M0, m_rows M0, ⟨pa0, pb0, pc0, ⟨rest0, pd0⟩⟩, M1, m_text M1, ⟨pa1, pb1, pc1, ⟨rest1, pd1⟩⟩, M2, m_plates M2, ⟨pa2, pb2, pc2, ⟨rest2, pd2⟩⟩, M3, m_away M3, ⟨pa3, pb3, pc3, ⟨rest3, pd3⟩⟩, M4, m___len__ M4, s0, i0, M5, m___str__ M5, s1, i1, M6, m___repr__ M6, s2, i2, M7, m___eq__ M7, s3, i3, nb, ne⟩
  have TS : Tys K 227 := by
    have nf : ∀ i, i < 5 → PySem.W.notFirst K 227 (.type (tyW i)) = true := fun i hi => and1 (all_range tT i hi)
    have kt : ∀ i, i < 5 → PySem.W.kitOne K (.type (tyW i)) (.ref 227) = some false := fun i hi => beq_iff_eq.mp (and2 (all_range tT i hi))
    have at_ : ∀ t ∈ (["NoneType", "str", "tuple", "int", "list"] : List String), ∃ i, i < 5 ∧ tyW i = t := by
      intro t ht
      simp only [List.mem_cons, List.mem_nil_iff, or_false] at ht
      rcases ht with rfl | rfl | rfl | rfl | rfl
      · exact ⟨0, by decide, rfl⟩
      · exact ⟨1, by decide, rfl⟩
      · exact ⟨2, by decide, rfl⟩
      · exact ⟨3, by decide, rfl⟩
      · exact ⟨4, by decide, rfl⟩
    refine ⟨fun t ht => ?_, fun t ht => ?_⟩
    · obtain ⟨i, hi, rfl⟩ := at_ t ht
      exact nf i hi
    · obtain ⟨i, hi, rfl⟩ := at_ t ht
      exact kt i hi
  have NN : Num K mg 28 d0 := ⟨F0, b_read_number F0, ln 0 (by decide)⟩
  have DD : Dy K mg 45 42 dD := ⟨FD, bindsD FD, ⟨dmk, dmi, dmf, dkp⟩, mCD, ⟨dg, dh, dov, ds⟩, dn 0 (by decide), dn 1 (by decide), dn 2 (by decide), dn 3 (by decide), dn 4 (by decide)⟩
  have T : Texts K mg 28 77 63 70 56 135 45 42 d0 d2 d3 d4 d5 d1 dD :=
    ⟨NN, DD, F2, b_read_depth F2, ln 2 (by decide), F3, b_read_cut F3, ln 3 (by decide), F4, b_read_take F4, ln 4 (by decide), F5, b_read_day F5, ln 5 (by decide), F1, b_read_first F1, ln 1 (by decide), dob, deq⟩
  have BD : Bad K mg 126 123 dB := ⟨FB, xc_of PySem.F.excBase_ValueError PySem.F.store_ValueError bx, bn, bi, bt, mCR, bs, bty⟩
  have D : Drw K mg 245 252 d7 d8 := ⟨F7, b__law_draw F7, ln 7 (by decide), F8, b__law_of F8, ln 8 (by decide)⟩
  have Z : Lw K mg 266 287 294 273 d10 d13 d14 d11 := ⟨ln 10 (by decide), lk 10 (by decide), b__law_rows F10, ln 13 (by decide), lk 13 (by decide), b__law_by_rows F13, ln 14 (by decide), lk 14 (by decide), b__law_shows F14, ln 11 (by decide), lk 11 (by decide), b__law_made F11⟩
  refine ⟨d16, bind_script F16, fun base _ _ hs => ?_⟩
  have GI : FnR l.prog w K mg base CX0 5 147 (spStar 227 45) := ok_init FI B L R T BD
  have GR : FnOk l.prog w K mg base CX0 10 266 d10 ["_law_spring_here"] spRowsL := ok_rowsL (j := 6) F10 B D F9 (b__law_take F9) (ln 9 (by decide))
  have GM : FnOk l.prog w K mg base CX0 8 273 d11 ["_law_rows_now"] (spMade K 227 45) := ok_made F11 B Y GI
  have GB9 : FnOk l.prog w K mg base CX0 9 287 d13 ["_law_some"] (spMade K 227 45) := ok_by F13 B Y GI F11 (b__law_made F11) (ln 11 (by decide))
  have GB : FnOk l.prog w K mg base CX0 10 287 d13 ["_law_some"] (spMade K 227 45) := ⟨GB9.len, fun A outer s H args us vs Q E hr => GB9.run A outer s H args us vs Q E (hr.mono (by decide))⟩
  have GS : FnG l.prog w K mg base CX0 10 294 d14 ["_law_mine", "_law_some"] (spShows K 227) := ok_shows F14 B Y N F12 (b__law_head F12) (ln 12 (by decide)) hs
  have GRt : FnG l.prog w K mg base CX0 11 299 d15 ["_law_spring_here"] spRight := ok_right F15 B Y N TS Z GI GR GB GS
  have GP : FnOk l.prog w K mg base CX0 11 238 d6 ["_law_cells", "_law_k"] (spSpring K) := ok_spring (j := 10) F6 B
  exact ok_law F16 B Y N Z GI GM GS (ln 15 (by decide)) (lk 15 (by decide)) (b__law_right F15) GRt (ln 6 (by decide)) (lk 6 (by decide)) (b__law_spring F6) GP
end PW
set_option maxHeartbeats 0
open PySem PySem.W PyProof.Rows
open_top PW.head2 for PySem.Challenge.rw_pileworn_k02_rules_made
open PySem PySem.W PyProof.Rows
set_option maxRecDepth 100000 in
set_option maxHeartbeats 0 in
theorem PySem.Challenge.cw_pileworn_k02_rules_made_holds : PySem.Challenge.rw_pileworn_k02_rules_made.Holds := by
  refine PW.head2 ?_
  k_fill
  refine PW.walkG (l := PySem.Challenge.rw_pileworn_k02_rules_made) (sp := fun K => PW.spLaw K) (k := 12) (x := "_law_script") rfl (by decide) rfl ?Q ⟨rfl, by decide, by decide⟩ (fun w h Y => PySem.W.kIn_of Y) ?F ?S
  case Q => kernel_rfl
  case S =>
    intro K H a ns hl _ hS
    exact ⟨a, ns, rfl, hS, hl, fun _ => rfl⟩
  case F =>
    intro w mg fa h KX G hmg
    refine' PW.all_mk KX G hmg ?tF ?tL ?tN ?tT ?tD ?hC ?hCR ?hCD ?pg ?hd ?po ?sa ?n0 ?n1 ?n2 ?n3 ?ha ?hn ?htk ?hm ?mk ?mi ?mf ?kp ?rd ?ga ?cm ?rc ?rf ?pa0 ?pb0 ?pc0 ?pd0 ?pa1 ?pb1 ?pc1 ?pd1 ?pa2 ?pb2 ?pc2 ?pd2 ?pa3 ?pb3 ?pc3 ?pd3 ?s0 ?i0 ?s1 ?i1 ?s2 ?i2 ?s3 ?i3 ?nb ?ne ?dg ?dh ?dov ?ds ?dmk ?dmi ?dmf ?dkp ?dob ?deq ?bx ?bn ?bi ?bt ?bs ?bty ?F0 ?F1 ?F2 ?F3 ?F4 ?F5 ?F6 ?F7 ?F8 ?F9 ?F10 ?F11 ?F12 ?F13 ?F14 ?F15 ?F16 ?M0 ?M1 ?M2 ?M3 ?M4 ?M5 ?M6 ?M7 ?FI ?FR ?FD ?FB
    (case tF => kernel_rfl)
    (case tL => kernel_rfl)
    (case tN => kernel_rfl)
    (case tT => kernel_rfl)
    (case tD => kernel_rfl)
    (case hC => kernel_rfl)
    (case hCR => kernel_rfl)
    (case hCD => kernel_rfl)
    (case pg => kernel_rfl)
    (case hd => kernel_rfl)
    (case po => kernel_rfl)
    (case sa => kernel_rfl)
    (case n0 => kernel_rfl)
    (case n1 => kernel_rfl)
    (case n2 => kernel_rfl)
    (case n3 => kernel_rfl)
    (case ha => kernel_rfl)
    (case hn => kernel_rfl)
    (case htk => kernel_rfl)
    (case hm => kernel_rfl)
    (case mk => kernel_rfl)
    (case mi => kernel_rfl)
    (case mf => kernel_rfl)
    (case kp => kernel_rfl)
    (case rd => kernel_rfl)
    (case ga => kernel_rfl)
    (case cm => kernel_rfl)
    (case rc => k_is)
    (case rf => kernel_rfl)
    (case pa0 => kernel_rfl)
    (case pb0 => kernel_rfl)
    (case pc0 => kernel_rfl)
    (case pd0 => k_is)
    (case pa1 => kernel_rfl)
    (case pb1 => kernel_rfl)
    (case pc1 => kernel_rfl)
    (case pd1 => k_is)
    (case pa2 => kernel_rfl)
    (case pb2 => kernel_rfl)
    (case pc2 => kernel_rfl)
    (case pd2 => k_is)
    (case pa3 => kernel_rfl)
    (case pb3 => kernel_rfl)
    (case pc3 => kernel_rfl)
    (case pd3 => k_is)
    (case s0 => kernel_rfl)
    (case i0 => kernel_rfl)
    (case s1 => kernel_rfl)
    (case i1 => kernel_rfl)
    (case s2 => kernel_rfl)
    (case i2 => kernel_rfl)
    (case s3 => kernel_rfl)
    (case i3 => kernel_rfl)
    (case nb => kernel_rfl)
    (case ne => kernel_rfl)
    (case dg => kernel_rfl)
    (case dh => kernel_rfl)
    (case dov => kernel_rfl)
    (case ds => kernel_rfl)
    (case dmk => kernel_rfl)
    (case dmi => kernel_rfl)
    (case dmf => kernel_rfl)
    (case dkp => kernel_rfl)
    (case dob => kernel_rfl)
    (case deq => kernel_rfl)
    (case bx => kernel_rfl)
    (case bn => kernel_rfl)
    (case bi => kernel_rfl)
    (case bt => kernel_rfl)
    (case bs => kernel_rfl)
    (case bty => kernel_rfl)
    (case F0 => (refine' ⟨_, L2.fun_mk ?l ?c ?k⟩; (case l => k_is); (case c => k_is); (case k => k_is)))
    (case F1 => (refine' ⟨_, L2.fun_mk ?l ?c ?k⟩; (case l => k_is); (case c => k_is); (case k => k_is)))
    (case F2 => (refine' ⟨_, L2.fun_mk ?l ?c ?k⟩; (case l => k_is); (case c => k_is); (case k => k_is)))
    (case F3 => (refine' ⟨_, L2.fun_mk ?l ?c ?k⟩; (case l => k_is); (case c => k_is); (case k => k_is)))
    (case F4 => (refine' ⟨_, L2.fun_mk ?l ?c ?k⟩; (case l => k_is); (case c => k_is); (case k => k_is)))
    (case F5 => (refine' ⟨_, L2.fun_mk ?l ?c ?k⟩; (case l => k_is); (case c => k_is); (case k => k_is)))
    (case F6 => (refine' ⟨_, L2.fun_mk ?l ?c ?k⟩; (case l => k_is); (case c => k_is); (case k => k_is)))
    (case F7 => (refine' ⟨_, L2.fun_mk ?l ?c ?k⟩; (case l => k_is); (case c => k_is); (case k => k_is)))
    (case F8 => (refine' ⟨_, L2.fun_mk ?l ?c ?k⟩; (case l => k_is); (case c => k_is); (case k => k_is)))
    (case F9 => (refine' ⟨_, L2.fun_mk ?l ?c ?k⟩; (case l => k_is); (case c => k_is); (case k => k_is)))
    (case F10 => (refine' ⟨_, L2.fun_mk ?l ?c ?k⟩; (case l => k_is); (case c => k_is); (case k => k_is)))
    (case F11 => (refine' ⟨_, L2.fun_mk ?l ?c ?k⟩; (case l => k_is); (case c => k_is); (case k => k_is)))
    (case F12 => (refine' ⟨_, L2.fun_mk ?l ?c ?k⟩; (case l => k_is); (case c => k_is); (case k => k_is)))
    (case F13 => (refine' ⟨_, L2.fun_mk ?l ?c ?k⟩; (case l => k_is); (case c => k_is); (case k => k_is)))
    (case F14 => (refine' ⟨_, L2.fun_mk ?l ?c ?k⟩; (case l => k_is); (case c => k_is); (case k => k_is)))
    (case F15 => (refine' ⟨_, L2.fun_mk ?l ?c ?k⟩; (case l => k_is); (case c => k_is); (case k => k_is)))
    (case F16 => (refine' ⟨_, L2.fun_mk ?l ?c ?k⟩; (case l => k_is); (case c => k_is); (case k => k_is)))
    (case M0 => (refine' ⟨_, L2.fun_mk ?l ?c ?k⟩; (case l => k_is); (case c => k_is); (case k => k_is)))
    (case M1 => (refine' ⟨_, L2.fun_mk ?l ?c ?k⟩; (case l => k_is); (case c => k_is); (case k => k_is)))
    (case M2 => (refine' ⟨_, L2.fun_mk ?l ?c ?k⟩; (case l => k_is); (case c => k_is); (case k => k_is)))
    (case M3 => (refine' ⟨_, L2.fun_mk ?l ?c ?k⟩; (case l => k_is); (case c => k_is); (case k => k_is)))
    (case M4 => (refine' ⟨_, L2.fun_mk ?l ?c ?k⟩; (case l => k_is); (case c => k_is); (case k => k_is)))
    (case M5 => (refine' ⟨_, L2.fun_mk ?l ?c ?k⟩; (case l => k_is); (case c => k_is); (case k => k_is)))
    (case M6 => (refine' ⟨_, L2.fun_mk ?l ?c ?k⟩; (case l => k_is); (case c => k_is); (case k => k_is)))
    (case M7 => (refine' ⟨_, L2.fun_mk ?l ?c ?k⟩; (case l => k_is); (case c => k_is); (case k => k_is)))
    (case FI => (refine' ⟨_, L2.fun_mk ?l ?c ?k⟩; (case l => k_is); (case c => k_is); (case k => k_is)))
    (case FR => (refine' ⟨_, L2.fun_mk ?l ?c ?k⟩; (case l => k_is); (case c => k_is); (case k => k_is)))
    (case FD => (refine' ⟨_, L2.fun_mk ?l ?c ?k⟩; (case l => k_is); (case c => k_is); (case k => k_is)))
    (case FB => (refine' ⟨_, L2.fun_mk ?l ?c ?k⟩; (case l => k_is); (case c => k_is); (case k => k_is)))
