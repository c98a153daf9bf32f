import PyProof.Rows.All
import Wide.All
import OpenK.AllK
import Wide.FinOn
import HandS.ForMost
import HandS.ForExc
import HandS.ExcInit
import HandS.Evl
import HandS.WideBits
import HandS.IsInst
import KE.KExcLine
import KE.KExcIs
import PyProof.ReprRoads
import PyProof.Rows.CountFlat
import HandS.Deep
import PySem.Challenge.RW_pileworn_k01_errors_and_limits
set_option Elab.async false
set_option linter.all false
set_option maxRecDepth 100000
set_option maxHeartbeats 4000000
/-! PW0: defs that are called where no repr is under way; repr of plain data -/
namespace PW
open PySem PySem.Spec PyProof.Rows L2

/-- no guarded built-in is under way -/
def Still (A : Around) : Prop := A.guards = some []

/-- a def's promise, kept where A is still -/
structure FnG (P : Program) (w : World) (K : PySem.W.Frag) (mg : Str → Option Value) (base : Heap)
    (CX : CXT) (k : Nat) (f : Addr) (fd : FuncData) (ps : List Str) (sp : Sp) : Prop where
  arity : ∀ vs H Q E, sp vs H Q E → vs.length = ps.length
  goes : ∀ (A : Around) (outer : List Env) (s : Shared) (H : Hp) (args : Args) (us : List Value)
    (vs : List V) (Q : VK) (E : XK), Still A → Room k A → Env0 P w K mg base A outer s H →
    BindsTo s fd args (ps.zip us) → Vals vs us → sp vs H Q E →
    codeAny (model P w) A (.call (.ref f) args) (CR CX outer P w H s Q E) s

theorem FnG.of {P : Program} {w : World} {K : PySem.W.Frag} {mg : Str → Option Value} {base : Heap}
    {CX : CXT} {k : Nat} {f : Addr} {fd : FuncData} {ps : List Str} {sp : Sp}
    (F : FnOk P w K mg base CX k f fd ps sp) : FnG P w K mg base CX k f fd ps sp :=
  ⟨F.len, fun A outer s H args us vs Q E _ => F.run A outer s H args us vs Q E⟩

section
variable {P : Program} {w : World} {K : PySem.W.Frag} {mg : Str → Option Value} {base : Heap}
/-- THE RULE for a def that wants stillness -/
theorem okG {x qual : Str} {st : Stmt} {f : Addr} {fd : FuncData} {N ps : List Str} {k : Nat} {sp : Sp}
    (F : Fun K x qual st f fd) (S : FnScope N ps (defScope st)) (len : ∀ vs H Q E, sp vs H Q E → vs.length = ps.length)
    (hbody : ∀ (cdv : Value) (A : Around) (outer : List Env) (s : Shared) (H : Hp) (vs : List V) (Q : VK) (E : XK),
      Still (A.deeper (envOfC qual (defScope st) s.heap.objs.size f cdv)) →
      Room k (A.deeper (envOfC qual (defScope st) s.heap.objs.size f cdv)) → sp vs H Q E →
      ∃ t, PSs (cxOf CX0 P w K mg base N qual (defScope st) f cdv A outer s H E).nox (defBody st) t ∧
        t { nx := fun _ H' => Q .non H', rt := Q } (start N vs) H) :
    FnG P w K mg base CX0 (k + 1) f fd ps sp := by
  obtain ⟨oc, od, kV, doc, pm, an, cdv, ct, osl, rfl, lk, hcd⟩ := F.ex
  refine ⟨len, ?_⟩
  intro A outer s H args us vs Q E still room env bnd rel hsp
  have hl := len _ _ _ _ hsp
  have kept : ∀ b o, base.get? b = some o → s.heap.get? b = some o := fun b o e => (env.bs b o e).1
  have KX : K.In s.heap := env.mod.kin.keeps kept
  have pars : ∀ y ∈ ps.zip us, (defScope st).names.lookup y.1 = some .local ∨
      ((defScope st).names.lookup y.1 = some .cell ∧
        ((cellsFrom (s.heap.objs.size + 1) (defScope st).names []).lookup y.1).isSome = true) := by
    intro y hy
    obtain ⟨n, v⟩ := y
    exact (S.par n (List.of_mem_zip hy).1).imp id fun q => ⟨q, PySem.W.cellsFrom_some _ _ _ (.inl q)⟩
  refine codeAny_call_function room.depth (KX _ _ lk) rfl S.co S.gen rfl
    (PySem.W.codeRec_of KX hcd) (bnd _ _ _ _ ?_)
  refine wpAny_newFunctionEnv_cells S.kind pars ?_
  intro env' he s1 x
  subst he
  refine ⟨(env.mod.nolimit.keeps kept).keeps x.toInCall.keep, codeAny_func ?_⟩
  obtain ⟨t, ht, hq⟩ := hbody cdv A outer s H vs Q E still (room.deeper _) hsp
  refine wpAny_mono (ht.nox.run [] s1 (start N vs) H _
    (inv_start S room.hd env hl rel x) hq) ?_ (fun _ _ z => z)
  intro fl s' hs
  cases fl with
  | ret u =>
    obtain ⟨v, σ', H', J, rv, q⟩ := hs
    exact ⟨v, H', J.os, J.bare, J.base, J.hok, rv, q⟩
  | next =>
    obtain ⟨σ', H', J, q⟩ := hs
    exact ⟨V.non, H', J.os, J.bare, J.base, J.hok, rfl, q⟩
  | brk => exact hs.elim fun _ z => z.elim fun _ z => z.2.elim
  | cont => exact hs.elim fun _ z => z.elim fun _ z => z.2.elim
end

section
variable {X : Cx} {CX : CXT} {k : Nat} {f C : Addr} {fd : FuncData} {ps : List Str} {sp : Sp} {dvs : List V}
  {ds : List Value} {E : XK} {x m : Str} {p pos apos : Pos} {e o : Expr} {es : List Expr} {ta : TE} {t : TA}
/-- f(e, ..) of such a def -/
theorem pe_callG (F : FnG X.prog X.w X.K X.mg X.base CX k f fd ps sp) (st : Still X.A) (hr : Room k X.A)
    (hg : Gl X x) (hm : X.mg x = some (.ref f)) (hk : PySem.W.keepIn X.K (.ref f) = true)
    (hb : Binds X.K fd ps ds) (hd : Vals dvs ds) (hx : Passes CX X E) (ha : PA X (e :: es) t)
    (hdb : (x == ("__debug__" : Str)) = false := by decide)
    (he : starEach (e :: es) X.env = (false, eval e X.env) :: starEach es X.env := by rfl)
    (hpl : (backTo pos (starEach es X.env)).any (·.1) = false := by rfl) :
    PE X (.Call (.Name x p) (e :: es) [] pos) (tCall sp dvs E t) := by
  constructor
  intro pins s σ H Q I h
  refine wpAny_Call_Name_kw (ld_glob I hg hm ?_ hdb)
  refine PySem.W.callWith_K (h₀ := X.base) I.ok.mod.kin hk (thn (ha.run pos pins s σ H _ I h) ?_) he hpl
  rintro us s1 ⟨vs, H1, I1, r, q⟩
  refine ⟨I1.kIn, ?_⟩
  have rr := r.append hd
  have hl : (us ++ ds).length = ps.length := rr.length.symm.trans (F.arity _ _ _ _ q)
  refine wpAny_call (codeAny_mono (F.goes X.A X.stack s1 H1 ⟨us, []⟩ (us ++ ds) (vs ++ dvs) Q E st hr
    I1.env0 (hb s1 us I1.kIn hl) rr q) ?_)
  intro r s' hq
  match r, hq with
  | .error er, hq => exact hx pins σ H1 s1 er s' I1 hq
  | .ok (.ret u), hq => exact I1.after hq
  | .ok .next, hq => exact False.elim hq
  | .ok .brk, hq => exact False.elim hq
  | .ok .cont, hq => exact False.elim hq
end

/-! ### a law's end, where its def wants stillness -/
theorem still_caller : Still callerA := rfl
section
variable {P : Program} {w : World} {K : PySem.W.Frag} {mg mb : Str → Option Value} {k : Nat} {fa a : Addr}
  {fd : FuncData} {x : Str} {sp : Sp} {s1 : Shared} {vs : List Value} {ns : List Int}
/-- the call over one abstract heap, in which at most the script is tracked -/
theorem law_core (KX : K.In s1.heap) (hns : s1.heap.Ns mainGlobals mg) (hb : s1.heap.Ns builtinsNs mb)
    (hbb : ∀ x : Str, x ≠ "__name__" → mb x = bootBuiltins x) (hlim : s1.heap.NoLimit) (hg : s1.gens = #[])
    {mm : Str → Option Value} (hsys : s1.heap.Ns sysModules mm)
    (hr : Room k callerA)
    (F : ∀ base : Heap, K.In base → base.Ns mainGlobals mg → (base.get? sysModules).isSome = true → FnG P w K mg base CX0 k fa fd [x] sp)
    (hbind : ∀ (s : Shared) (u : Value), BindsTo s fd ⟨[u], []⟩ [(x, u)])
    (H : Hp) (only : Only H) (hok : HOk P w H s1.heap)
    (nodict : ∀ b o es ep, s1.heap.get? b = some o → o.data = .dict es ep → H b = none)
    (noK : ∀ b o, K.lookup b = some o → H b = none)
    (hsp : sp [.ref a] H (fun v _ => v = .bl true) fun _ _ _ => False) :
    codeAny (model P w) callerA (.call (.ref fa) ⟨[.ref a], []⟩)
      (fun r s' => r = .ok (.ret (.bool true)) ∧ OldK s1.heap s'.heap ∧ s'.os = s1.os ∧ AllBare s'.gens) s1 := by
  have nsK : ∀ {b : Addr} {m : Str → Option Value}, s1.heap.Ns b m → (hidT s1.heap H).Ns b m := by
    rintro b m ⟨o, es, ep, e, d, r⟩
    exact ⟨o, es, ep, hidT_get e (nodict b o es ep e d), d, r⟩
  have kin : K.In (hidT s1.heap H) := fun b o e => hidT_get (KX b o e) (noK b o e)
  have mo : Mod K mg (hidT s1.heap H) :=
    ⟨kin, nsK hns, ⟨mb, nsK hb, hbb⟩, hlim.elim fun mc q => ⟨mc, nsK q.1, q.2⟩⟩
  have en : Env0 P w K mg (hidT s1.heap H) callerA [] s1 H :=
    { frames := rfl, mod := mo, bs := fun b o e => of_hidT e, bsz := Nat.le_of_eq (hidT_size _ _),
      funs := trivial, frf := fun b z => absurd (show b ∈ ([] : List Addr) from z) (by simp), hok := hok,
      bare := .of_eq hg }
  have sys : ((hidT s1.heap H).get? sysModules).isSome = true := by
    obtain ⟨o, _, _, e, _⟩ := nsK hsys
    rw [e]
    rfl
  refine codeAny_mono ((F _ kin (nsK hns) sys).goes callerA [] s1 H ⟨[.ref a], []⟩ [.ref a] [.ref a] _ _
    still_caller hr en (hbind s1 (.ref a)) (.cons rfl .nil) hsp) ?_
  intro r s' h
  match r, h with
  | .error e, h => exact False.elim h
  | .ok .next, h => exact False.elim h
  | .ok .brk, h => exact False.elim h
  | .ok .cont, h => exact False.elim h
  | .ok (.ret u), h =>
    obtain ⟨v, H', os, bare, un, hok', r', rfl⟩ := h
    obtain rfl : u = Value.bool true := r'
    refine ⟨rfl, OldK.of_keep ?_, os, bare⟩
    intro b o e
    rcases only b with z | ⟨ob, xs, z⟩
    · exact un.keep b o e z (fun q => absurd (show b ∈ ([] : List Addr) from q) (by simp)) (by simp)
    · have old := (hok b _ z).1
      have new := (hok' b _ (un.frzs b ob _ z)).1
      exact new.trans (old.symm.trans e)
/-- .. the script tracked, or one of the module's own objects -/
theorem law_callG (KX : K.In s1.heap) (hns : s1.heap.Ns mainGlobals mg) (hb : s1.heap.Ns builtinsNs mb)
    (hbb : ∀ x : Str, x ≠ "__name__" → mb x = bootBuiltins x) (hlim : s1.heap.NoLimit) (hg : s1.gens = #[])
    {mm : Str → Option Value} (hsys : s1.heap.Ns sysModules mm)
    (ha : s1.heap.get? a = some { cls := .type "list", data := .seq vs.toArray }) (hi : IntsAre vs ns)
    (hl : ns.length ≤ sizeLine) (hr : Room k callerA)
    (F : ∀ base : Heap, K.In base → base.Ns mainGlobals mg → (base.get? sysModules).isSome = true → FnG P w K mg base CX0 k fa fd [x] sp)
    (hbind : ∀ (s : Shared) (u : Value), BindsTo s fd ⟨[u], []⟩ [(x, u)])
    (hsp : ∀ H : Hp, Only H → SqL K H a (ns.map V.int) → sp [.ref a] H (fun v _ => v = .bl true) fun _ _ _ => False) :
    codeAny (model P w) callerA (.call (.ref fa) ⟨[.ref a], []⟩)
      (fun r s' => r = .ok (.ret (.bool true)) ∧ OldK s1.heap s'.heap ∧ s'.os = s1.os ∧ AllBare s'.gens) s1 := by
  have rv := vals_ints hi
  have lenV := hi.length
  cases hk : K.lookup a with
  | some o =>
    obtain rfl := Option.some.inj (ha.symm.trans (KX a o hk))
    refine law_core KX hns hb hbb hlim hg hsys hr F hbind (fun _ => none) (fun _ => .inl rfl) (fun b u z => nomatch z)
      (fun _ _ _ _ _ _ => rfl) (fun _ _ _ => rfl) (hsp _ (fun _ => .inl rfl) (.inr ⟨_, vs.toArray, _, hk, rfl, rfl, rfl, ?_, ?_⟩))
    · rw [List.size_toArray, lenV]
      exact hl
    · simpa using rv
  | none =>
    let ob : Obj := { cls := .type "list", data := .seq vs.toArray }
    let H : Hp := fun b => if b = a then some (.frz ob (.lst (ns.map V.int))) else none
    have at_a : H a = some (.frz ob (.lst (ns.map V.int))) := if_pos rfl
    have off : ∀ {b}, b ≠ a → H b = none := fun h => if_neg h
    have only : Only H := fun b => by
      by_cases q : b = a
      · exact .inr ⟨ob, _, q ▸ at_a⟩
      · exact .inl (off q)
    refine law_core KX hns hb hbb hlim hg hsys hr F hbind H only (fun b u z => ?_) (fun b o es ep e d => ?_)
      (fun b o e => off fun q => ?_) (hsp H only (.inl (.inr ⟨ob, at_a⟩)))
    · by_cases q : b = a
      · subst q
        obtain rfl := Option.some.inj (at_a.symm.trans z)
        exact ⟨ha, by rw [List.length_map]; exact hl, vs, _, rv, ha⟩
      · exact nomatch (off q).symm.trans z
    · refine off fun q => ?_
      subst q
      obtain rfl := Option.some.inj (ha.symm.trans e)
      cases d
    · rw [q, hk] at e
      cases e
end
/-- what is left of a row behind its head, from such a promise of its def -/
theorem walkG {l : PySem.W.OpenLaw} {n k : Nat} {q : Program} {loose : List Str} {XP : (Str → Option Value) → Heap → Prop}
    {YP : World → Heap → Prop} {d : DefRec} {K : Params → PySem.W.Frag} {sp : PySem.W.Frag → Sp} {x : Str}
    (hn : l.most = some n) (hn2 : n ≤ sizeLine) (hdf : d.params.defaults = []) (hq : importsNone q = true) (hr : Room k callerA)
    (hY : ∀ (w : World) (h : Heap), YP w h → (K w.params).In h)
    (F : ∀ (w : World) (mg : Str → Option Value) (fa : Addr) (h : Heap), (K w.params).In h → h.Ns mainGlobals mg →
      mg d.name = some (.ref fa) → ∃ fd : FuncData, (∀ (s : Shared) (u : Value), BindsTo s fd ⟨[u], []⟩ [(x, u)]) ∧
        ∀ base : Heap, (K w.params).In base → base.Ns mainGlobals mg → (base.get? sysModules).isSome = true →
          FnG l.prog w (K w.params) mg base CX0 k fa fd [x] (sp (K w.params)))
    (hsp : ∀ (K : PySem.W.Frag) (H : Hp) (a : Addr) (ns : List Int), ns.length ≤ n → Only H →
      SqL K H a (ns.map V.int) → sp K [.ref a] H (fun v _ => v = .bl true) fun _ _ _ => False) :
    PySem.W.WalkO q loose XP YP l.row.toRowW d [] (fun f vs => PySem.call f vs) := by
  refine Att.attach_call hn hdf ?_
  intro w s0 s1 mg mb fa o pm cd doc a vs ns G Y ho hd hcd hmg hobj hints hlen hg
  have KX := hY w _ Y
  obtain ⟨fd, hb, hF⟩ := F w mg fa _ KX G.T.g hmg
  obtain ⟨mm, hsys, _⟩ := (G.T.seer hq).mods
  exact law_callG KX G.T.g G.T.b G.T.builtins G.T.nolimit hg hsys hobj hints (Nat.le_trans hlen hn2) hr hF hb
    fun H hO hS => hsp (K w.params) H a ns hlen hO hS

/-! ### repr of plain data -/
def keyD : Key → PyData
  | .inl i => .int i
  | .inr x => .str x
mutual
/-- a value and what it shows: plain data over the abstract heap -/
inductive Dat (H : Hp) : V → PyData → Prop where
  | non : Dat H .non .none
  | bl (b : Bool) : Dat H (.bl b) (.bool b)
  | int (i : Int) : Dat H (.int i) (.int i)
  | str (x : Str) : Dat H (.str x) (.str x)
  | lst {a : Addr} {xs : List V} {ds : List PyData} (h : Rd H a (.lst xs)) (r : Dats H xs ds) : Dat H (.ref a) (.list ds)
  | tup {a : Addr} {xs : List V} {ds : List PyData} (h : Rd H a (.tup xs)) (r : Dats H xs ds) : Dat H (.ref a) (.tuple ds)
  | dic {a : Addr} {kvs : List (Key × V)} {ds : List PyData} (h : Rd H a (.dK kvs)) (r : Dats H (kvs.map (·.2)) ds) :
      Dat H (.ref a) (.dict ((kvs.map fun kv => keyD kv.1).zip ds))
inductive Dats (H : Hp) : List V → List PyData → Prop where
  | nil : Dats H [] []
  | cons {x : V} {d : PyData} {xs : List V} {ds : List PyData} (h : Dat H x d) (r : Dats H xs ds) : Dats H (x :: xs) (d :: ds)
end
theorem rd_some {H : Hp} {a : Addr} {u : HO} (h : Rd H a u) : H a ≠ none := by
  rcases h with h | ⟨o, h⟩ <;> rw [h] <;> simp
theorem Dats.len {H : Hp} : ∀ {xs : List V} {ds : List PyData}, Dats H xs ds → xs.length = ds.length
  | _, _, .nil => rfl
  | _, _, .cons _ r => congrArg (· + 1) r.len

section
variable {P : Program} {w : World} {H : Hp} {h : Heap}
theorem reads_keys : ∀ {ks : List Key} {us : List Value}, Paired (fun k u => keyIs k u = true) ks us → ReadsAll h us (ks.map keyD) []
  | _, _, .nil => .nil
  | _, _, .cons q r => by
    have t := reads_keys r
    rcases keyIs_shape q with ⟨i, t', rfl, rfl⟩ | ⟨x, t', rfl, rfl⟩
    · exact .cons (bs := []) (.int i t') t
    · exact .cons (bs := []) (.str x t') t
theorem pairs_parts {P : Program} {w : World} : ∀ {es : List DictEntry} {vs : List (Key × Value)} {kvs : List (Key × V)},
    Pairs (mixKind P w) es vs → KV kvs vs →
    Paired (fun k u => keyIs k u = true) (kvs.map (·.1)) (es.map (·.key)) ∧ Vals (kvs.map (·.2)) (es.map (·.val))
  | _, _, _, .nil, r => by
    cases r
    exact ⟨.nil, .nil⟩
  | _, _, _, .cons a b c, r => by
    cases r with
    | cons q t =>
      obtain ⟨i1, i2⟩ := pairs_parts c t
      rename_i e0 kv0 _ _ k0 _
      have a1 : keyIs k0.1 e0.key = true := by rw [q.1]; exact a
      have b1 : RelV k0.2 e0.val := by rw [b]; exact q.2
      exact ⟨.cons a1 i1, .cons b1 i2⟩
theorem zip_fst {α β : Type} : ∀ {l : List α} {m : List β}, l.length = m.length → (l.zip m).map (·.1) = l
  | [], [], _ => rfl
  | _ :: _, _ :: _, e => by simp [zip_fst (Nat.succ.inj e)]
theorem zip_snd {α β : Type} : ∀ {l : List α} {m : List β}, l.length = m.length → (l.zip m).map (·.2) = m
  | [], [], _ => rfl
  | _ :: _, _ :: _, e => by simp [zip_snd (Nat.succ.inj e)]
mutual
theorem Dat.reads (ok : HOk P w H h) : ∀ {v : V} {d : PyData} {u : Value}, Dat H v d → RelV v u → ∃ as, Reads h u d as ∧ ∀ b ∈ as, H b ≠ none
  | _, _, _, .non, r => ⟨[], by cases r; exact .none, by simp⟩
  | _, _, _, .bl b, r => ⟨[], by cases r; exact .bool b, by simp⟩
  | _, _, _, .int i, r => by
    obtain ⟨t, rfl⟩ := r
    exact ⟨[], .int i t, by simp⟩
  | _, _, _, .str x, r => by
    obtain ⟨t, rfl⟩ := r
    exact ⟨[], .str x t, by simp⟩
  | _, _, _, .lst (a := a) hr q, r => by
    cases r
    obtain ⟨_, its, n, rel, e⟩ := hr.ok ok
    obtain ⟨as, ra, ha⟩ := Dats.reads ok q rel
    refine ⟨a :: as, .list e rfl rfl ra, fun b hb => ?_⟩
    rcases List.mem_cons.mp hb with rfl | hb
    · exact rd_some hr
    · exact ha b hb
  | _, _, _, .tup (a := a) hr q, r => by
    cases r
    obtain ⟨_, its, rel, o, e, c, n, dd⟩ := hr.ok ok
    obtain ⟨as, ra, ha⟩ := Dats.reads ok q rel
    exact ⟨as, .tuple e c dd ra, ha⟩
  | _, _, _, .dic (a := a) (kvs := kvs) (ds := ds) hr q, r => by
    cases r
    obtain ⟨_, _, vs, kv, o, es, ep, e, ex, dd, ko, ps, nd⟩ := hr.ok ok
    obtain ⟨pk, pv'⟩ := pairs_parts ps kv
    obtain ⟨as, ra, ha⟩ := Dats.reads ok q pv'
    have len : (kvs.map fun kv => keyD kv.1).length = ds.length := by
      rw [List.length_map, ← q.len, List.length_map]
    refine ⟨a :: [] ++ as, .dict e ex.1 dd ?_ ?_, fun b hb => ?_⟩
    · have t := reads_keys (h := h) pk
      rw [zip_fst len]
      rw [List.map_map] at t
      exact t
    · rw [zip_snd len]
      exact ra
    · rcases List.mem_cons.mp hb with rfl | hb
      · exact rd_some hr
      · exact ha b hb
theorem Dats.reads (ok : HOk P w H h) : ∀ {xs : List V} {ds : List PyData} {us : List Value}, Dats H xs ds → Vals xs us → ∃ as, ReadsAll h us ds as ∧ ∀ b ∈ as, H b ≠ none
  | _, _, _, .nil, r => by
    cases r
    exact ⟨[], .nil, by simp⟩
  | _, _, _, .cons q t, r => by
    cases r with
    | cons r1 r2 =>
      obtain ⟨as, ra, ha⟩ := Dat.reads ok q r1
      obtain ⟨bs, rb, hb⟩ := Dats.reads ok t r2
      exact ⟨as ++ bs, .cons ra rb, fun b m => (List.mem_append.mp m).elim (ha b) (hb b)⟩
end
end

def rRepr (_ : PySem.W.Frag) : List V → Hp → VK → Prop := fun xs H Q => ∃ (v : V) (d : PyData), xs = [v] ∧ Dat H v d ∧ d.showable = true ∧
  d.shown.length ≤ sizeLine ∧ d.depth ≤ 40 ∧ Q (.str d.shown) H
/-- repr(v), v plain data -/
theorem call_reprD {X : Cx} (st : Still X.A) (hu : X.A.units + 64 < cLine) (hs' : (X.base.get? sysModules).isSome = true) : CallR X (.builtin "repr") (rRepr X.K) := by
  rintro pins s σ H xs us Q I r ⟨v, d, rfl, q, sh, sz, dp, k⟩
  have hs : d.hasDict = true → H sysModules = none := fun _ => by
    obtain ⟨o, ho⟩ := Option.isSome_iff_exists.mp hs'
    exact (I.bs _ _ ho).2
  cases r with
  | cons r1 rn =>
    cases rn
    have fin : ∀ (h' : Heap) (u : Tok) (tk : Nat), (∀ b o, s.heap.get? b = some o → h'.get? b = some o) →
        EP X pins σ Q (.str d.shown u) { s with heap := h', toks := tk } := fun h' u tk kp =>
      ⟨.str d.shown, H, I.kept kp, ⟨u, rfl⟩, k⟩
    obtain ⟨as, rd, ha⟩ := q.reads I.hok r1
    have big : ∀ {a : Addr} {e : PyData}, (e.depth ≤ 40) → X.A.units + (e.depth + 1) < cLine := fun h => by omega
    cases rd with
    | none => exact P.repr_of_none (fin s.heap _ _ fun _ _ e => e)
    | bool b => exact P.repr_of_bool (fin s.heap _ _ fun _ _ e => e)
    | int i t =>
      refine P.repr_of_int (by simpa [PyData.showable] using sh) (fin s.heap _ _ fun _ _ e => e)
    | str x t =>
      refine P.repr_of_str (fin s.heap _ _ fun _ _ e => e) (by simpa [PyData.shown] using sz)
    | list h1 h2 h3 h4 =>
      exact repr_of_reads' (.list h1 h2 h3 h4) sh (fun z m => ha _ m (hs z)) st (by omega) (fun _ _ e => e)
        (fun h' u tk kp => fin h' u tk kp) sz
    | tuple h1 h2 h3 h4 =>
      exact repr_of_reads' (.tuple h1 h2 h3 h4) sh (fun z m => ha _ m (hs z)) st (by omega) (fun _ _ e => e)
        (fun h' u tk kp => fin h' u tk kp) sz
    | dict h1 h2 h3 h4 h5 =>
      exact repr_of_reads' (.dict h1 h2 h3 h4 h5) sh (fun z m => ha _ m (hs z)) st (by omega) (fun _ _ e => e)
        (fun h' u tk kp => fin h' u tk kp) sz
end PW
/-! PW1: exceptions of the program as values: made by position and by name, their attributes, isinstance -/
namespace PW
open PySem PySem.Spec PyProof.Rows L2

/-- what the written part says of an exception class of the program at C -/
structure XC (K : PySem.W.Frag) (C : Addr) : Prop where
  base : ∃ (B newId initId : String) (bmB : List Value), ExcBaseFacts B newId initId bmB ∧
    PySem.StoreFacts B bmB "object.__setattr__" "object" ∧ PySem.W.excInitIn K C bmB newId = true ∧ PySem.W.excOver K C bmB = true
  sa : PySem.W.findIn K (.ref C) "__setattr__" = some (some (.builtin "object.__setattr__"))
  ga : PySem.W.findIn K (.ref C) "__getattribute__" = some (some (.builtin "BaseException.__getattribute__"))
  gg : PySem.W.findIn K (.ref C) "__getattr__" = some none
  ex : PySem.W.subIn K (.ref C) (.type "BaseException") = some true
  kp : PySem.W.keepIn K (.ref C) = true
  hd : PySem.W.hasDictIn K C = true
  cl : (PySem.W.clsIn K C).isSome = true
  ca : PySem.W.findIn K (.ref C) "__class__" = some (some (.builtin "object.__class__"))
  mo : PySem.W.mroIn K C (.type "object") = some true
/-- of every such class alike -/
structure XAll (K : PySem.W.Frag) : Prop where
  gs : PySem.W.specialIn K (.builtin "object.__class__") "__get__" = some (some (.builtin "getset_descriptor.__get__"))
  tk : PySem.W.takesIn K (.builtin "object.__class__") = some true

section
variable {prog : Program} {w : World} {A : Around} {E : Value → Shared → Prop} {K : PySem.W.Frag} {C x : Addr} {f : Str}
  {v : Value} {Q : Unit → Shared → Prop} {hp : Heap} {g : Array GenState} {d : Drawn} {t : Nat} {os : OsState} {fv : Array Value}
theorem set_more (T : XC K C) {dx : Addr} {m0 : Str → Option Value} {nl : List Str} (X : K.In hp)
    (hx : hp.get? x = some { cls := .ref C, dict := some dx, data := .fields fv }) (hn : hp.Ns1 dx m0) (hw : Within m0 nl)
    (hz : nl.length ≤ 1000) (tk : PySem.W.takerIn K C f = some none)
    (hq : ∀ h' tk', (∀ b o, b ≠ dx → hp.get? b = some o → h'.get? b = some o) →
      h'.Ns1 dx (fun y => if y = f then some v else m0 y) → Q () ⟨h', g, d, tk', os⟩) :
    wpAny (model prog w) A (setAttr (.ref x) f v) Q E ⟨hp, g, d, t, os⟩ := by
  obtain ⟨B, newId, initId, bmB, bf, sf, mk, ov⟩ := T.base
  obtain ⟨oD, esD, epD, hoD, hdD, _⟩ := hn.count hw
  obtain ⟨cd, hc, hd'⟩ := PySem.W.any_some T.hd
  have I : PySem.W.InstAt hp x { cls := .ref C, dict := some dx, data := .fields fv } C (some oD) := ⟨hx, rfl, rfl, hoD⟩
  refine PySem.W.set_plain X I T.sa (PySem.W.osa_openX (s := ⟨hp, g, d, t + 1, os⟩) sf X I ov tk fun b => ?_)
  refine wpAny_bind (wpAny_pure (wpAny_bind (wpAny_bind (wpAny_loadPart hx (wpAny_bind ((PySem.W.looks_clsIn X hc).here ?_))))))
  rw [hd']
  refine wpAny_pure (a := some dx) ?_
  exact PySem.OEX.store_in_old hn hw hz fun h' tk' n' same =>
    hq h' tk' (fun b o hb e => (same.2 b hb).trans e) n'
theorem set_first (T : XC K C) {t0 : Addr} (X : K.In hp) (hx : hp.get? x = some (PySem.HandSPX.excO C t0))
    (tk : PySem.W.takerIn K C f = some none)
    (hq : ∀ h' tk' dx, (∀ b o, b ≠ x → hp.get? b = some o → h'.get? b = some o) → hp.objs.size ≤ dx → dx ≠ x →
      h'.get? x = some { cls := .ref C, dict := some dx, data := .fields #[.ref t0, .none, .none, .none, .bool false, .none] } →
      h'.Ns1 dx (fun y => if y = f then some v else none) → Q () ⟨h', g, d, tk', os⟩) :
    wpAny (model prog w) A (setAttr (.ref x) f v) Q E ⟨hp, g, d, t, os⟩ := by
  obtain ⟨B, newId, initId, bmB, bf, sf, mk, ov⟩ := T.base
  obtain ⟨cd, hc, hd'⟩ := PySem.W.any_some T.hd
  have I : PySem.W.InstAt hp x (PySem.HandSPX.excO C t0) C none := ⟨hx, rfl, rfl, trivial⟩
  have far : hp.objs.size ≠ x := Nat.ne_of_gt (Heap.lt_size hx)
  refine PySem.W.set_plain X I T.sa (PySem.W.osa_openX (s := ⟨hp, g, d, t + 1, os⟩) sf X I ov tk fun b => ?_)
  refine wpAny_bind (wpAny_pure (wpAny_bind (PySem.W.instanceDict_exc (s := ⟨hp, g, d, t + 1, os⟩) (c2 := .none) hx
    (PySem.W.looks_clsIn X hc) hd' ?_)))
  refine PySem.HandSPX.store_in_new ?_ ?_
  · exact ⟨_, #[], _, (Heap.get?_update_ne _ _ _ _ far).trans (Heap.get?_push_at rfl rfl), rfl,
      fun e he => absurd he (by simp), fun _ => rfl⟩
  · intro h' tk' n' same
    have hx1 : (hp.push (PySem.W.dictOf [] 0)).get? x = some (PySem.HandSPX.excO C t0) := Heap.get?_push_of_some _ hx
    refine hq h' tk' hp.objs.size (fun b o hb e => ?_) (Nat.le_refl _) far ?_ n'
    · have q : b ≠ hp.objs.size := Nat.ne_of_lt (Heap.lt_size e)
      exact (same.2 b q).trans ((Heap.get?_update_ne _ _ _ _ hb).trans (Heap.get?_push_of_some _ e))
    · exact (same.2 x far.symm).trans (Heap.get?_update_self _ hx1 rfl)
end

/-! ### self.f = e within __init__ -/
section
variable {X : Cx} {pins : List (Addr × Obj)} {σ : L2.St} {H : Hp} {s : Shared} {a C dx : Addr} {f : Str} {y : V} {u : Value}
  {fs : List (Str × V)} {Q : Unit → Shared → Prop} {E : Value → Shared → Prop} {A : Around}
theorem put_first (T : XC X.K C) (I : Inv X pins σ H s) (e : H a = some (exo a C none))
    (tk : PySem.W.takerIn X.K C f = some none) (ry : RelV y u)
    (h : ∀ dx s', H dx = none → dx ≠ a →
      Inv X pins σ (upd (upd H dx (exd dx [(f, y)])) a (exo a C (some dx))) s' → Q () s') :
    wpAny (model X.prog X.w) A (setAttr (.ref a) f u) Q E s := by
  obtain ⟨t1, ho⟩ := exo_at I.hok e
  obtain ⟨hp, g, d, t, os⟩ := s
  refine set_first T I.kIn ho tk fun h' tk' dx k dn dne hx hn => ?_
  have new : H dx = none := I.hok.fresh dn
  have old : ∀ {b : Addr} {o : Obj}, hp.get? b = some o → b ≠ dx := fun q => Nat.ne_of_lt (Nat.lt_of_lt_of_le (Heap.lt_size q) dn)
  have off : ∀ {b : Addr}, H b = none → b ≠ a := fun n z => by rw [z, e] at n; cases n
  have un : Un X.fs [] H (upd (upd H dx (exd dx [(f, y)])) a (exo a C (some dx))) hp h' :=
    { keep := fun b o q n _ _ => k b o (off n) q
      slot := fun b o q n _ _ => ⟨o.slots, k b o (off n) q⟩
      free := fun b o q n _ => (upd_ne (off n)).trans ((upd_ne (old q)).trans n)
      there := fun b o q _ => by
        by_cases z : b = a
        · exact ⟨_, z ▸ hx⟩
        · exact ⟨o, k b o z q⟩
      tups := fun b xs q => (upd_ne (at_ne e q exo_tup)).trans ((upd_ne (ne_of_none q new)).trans q)
      frzs := fun b o v q => (upd_ne (at_ne e q exo_frz)).trans ((upd_ne (ne_of_none q new)).trans q)
      tbls := fun b ps q => ⟨#[], ((upd_ne (at_ne e q exo_tbl)).trans ((upd_ne (ne_of_none q new)).trans q)).trans (by simp)⟩ }
  refine h dx _ new dne (I.un (t' := tk') un fun b o q => ?_)
  by_cases z : b = a
  · subst z
    obtain rfl := Option.some.inj (upd_same.symm.trans q)
    exact exo_ok hx
  · have q1 := (upd_ne z).symm.trans q
    by_cases zd : b = dx
    · subst zd
      obtain rfl := Option.some.inj (upd_same.symm.trans q1)
      exact exd_ok hn (relO_put (fs := []) ry fun _ => trivial)
    · have q2 := (upd_ne zd).symm.trans q1
      refine (I.hok b o q2).stay (fun c v hc w' => k c v ?_ w') (fun c hc => ?_) fun c xs hc => ?_
      · rcases hc with rfl | hc
        · exact z
        · exact at_ne e hc exo_own
      · exact (upd_ne (at_ne e hc exo_own)).trans ((upd_ne (ne_of_none hc new)).trans hc)
      · exact (upd_ne (at_ne e hc exo_tup)).trans ((upd_ne (ne_of_none hc new)).trans hc)
theorem put_more (T : XC X.K C) (I : Inv X pins σ H s) (e : H a = some (exo a C (some dx))) (ed : H dx = some (exd dx fs))
    (hl : fs.length ≤ 900) (tk : PySem.W.takerIn X.K C f = some none) (ry : RelV y u)
    (h : ∀ s', Inv X pins σ (upd H dx (exd dx ((f, y) :: fs))) s' → Q () s') :
    wpAny (model X.prog X.w) A (setAttr (.ref a) f u) Q E s := by
  obtain ⟨t1, ho⟩ := exo_at I.hok e
  obtain ⟨mA, hns, rel⟩ := exd_at I.hok ed
  obtain ⟨hp, g, d, t, os⟩ := s
  refine set_more T I.kIn ho hns (within_of rel) (by rw [List.length_map]; omega) tk fun h' tk' k hn => ?_
  have there : ∃ o, h'.get? dx = some o := hn.elim fun o z => z.elim fun _ z => z.elim fun _ z => ⟨o, z.1⟩
  refine h _ (I.write (t' := tk') (x := dx) (e := dx) (o := exd dx ((f, y) :: fs)) ?_ (.inl rfl) k there
    (exd_ok hn (relO_put ry rel)))
  rw [ed]
  exact True.intro
end
/-- the reading of self.f = e on an exception -/
def tPut (K : PySem.W.Frag) (f : Str) (to te : TE) : TS := fun D σ H => te σ H fun y H1 => to σ H1 fun x H2 =>
  ∃ a C : Addr, x = .ref a ∧ XC K C ∧ PySem.W.takerIn K C f = some none ∧
    ((H2 a = some (exo a C none) ∧ ∀ dx, H2 dx = none → dx ≠ a → D.nx σ (upd (upd H2 dx (exd dx [(f, y)])) a (exo a C (some dx)))) ∨
    ∃ (dx : Addr) (fs : List (Str × V)), H2 a = some (exo a C (some dx)) ∧ H2 dx = some (exd dx fs) ∧ fs.length ≤ 900 ∧
      D.nx σ (upd H2 dx (exd dx ((f, y) :: fs))))
section
variable {X : Cx} {o e : Expr} {es : List Expr} {to te : TE} {ta tk : TA} {f : Str} {p p' p1 p2 pos : Pos}
theorem ps_put (ho : PE X o to) (he : PE X e te)
    (hs : swapsWith e (some (.Attribute o f p')) pos.line X.env = pure false := by rfl) :
    PS X (.Assign [.Attribute o f p'] e pos) (tPut X.K f to te) := by
  constructor
  intro pins s σ H D I h
  refine plainObj_wpAny_Assign_Attribute (thn (he.run pins s σ H _ I h) ?_) hs
  rintro v s1 ⟨y, H1, I1, r1, q1⟩
  refine thn (ho.run pins s1 σ H1 _ I1 q1) ?_
  rintro u s2 ⟨x, H2, I2, r2, a, C, rfl, T, ht, q⟩
  obtain rfl : u = Value.ref a := r2
  rcases q with ⟨ea, q⟩ | ⟨dx, fs, ea, ed, hl, q⟩
  · exact put_first T I2 ea ht r1 fun dx s' n ne J => ⟨σ, _, J, q dx n ne⟩
  · exact put_more T I2 ea ed hl ht r1 fun s' J => ⟨σ, _, J, q⟩
end
end PW
/-! PW1b: an exception class of the program called with keywords too -/
namespace PW
open PySem
section
variable {prog : Program} {w : World} {A : Around} {E : Value → Shared → Prop} {R : Result → Shared → Prop} {h : Heap}
  {g : Array GenState} {d : Drawn} {t : Nat} {os : OsState} {M : Model}
variable {nm q : Str} {C N : Addr} {bs bm bmB : List Value} {hdct : Bool} {sn : List Str} {sub : List Value} {ab : Bool}
  {col : Option Bool} {dd : Option Addr} {k0 k1 k2 k3 k5 : Option Value} {B newId initId : String}
  {rest : List Value} {kw : List (Str × Value)}
theorem new_checked (F : ExcBaseFacts B newId initId bmB) (hT : ∀ X : String, bm.contains (.type X) = bmB.contains (.type X))
    {Q : Unit → Shared → Prop} (hC : h.get? C = some (excClassObj nm q C N bs bm hdct sn sub ab col dd k0 k1 k2 k3 k5 newId))
    (hq : Q () ⟨h, g, d, t, os⟩) : wpAny M A (checkBuiltinCall newId ⟨.ref C :: rest, kw⟩) Q E ⟨h, g, d, t, os⟩ := by
  have has : (Value.ref C :: bm).contains (.type B) = true := by rw [List.contains_cons, hT, F.hasB, Bool.or_true]
  have hstar := F.noStar
  simp only [checkBuiltinCall, F.newKind, F.newSplit, F.newRow]
  repeat (first
    | refine wpAny_loadPart_at hC ?_
    | (refine wpAny_isSubtype_exc hC ?_; rw [has])
    | refine wpAny_staticBase_exc hC ?_
    | refine wpAny_madeBy_exc hC ?_
    | simp only [bne_self_eq_false, Bool.false_eq_true, if_false]
    | wp_step)
  exact hq
theorem new_goes (F : ExcBaseFacts B newId initId bmB) (hT : ∀ X : String, bm.contains (.type X) = bmB.contains (.type X))
    (hC : h.get? C = some (excClassObj nm q C N bs bm hdct sn sub ab col dd k0 k1 k2 k3 k5 newId))
    (hq : R (.ok (.ret (.ref (h.objs.size + 1)))) ⟨(h.push (PySem.W.kdv_tup rest)).push (PySem.HandSPX.excO C h.objs.size), g, d, t, os⟩)
    (hrest : rest.length ≤ sizeLine) :
    codeAny (model prog w) A (.builtin newId ⟨.ref C :: rest, kw⟩) R ⟨h, g, d, t, os⟩ := by
  have hends := F.ends
  have isB : (Value.ref C :: bm).contains (.type B) = true := by rw [List.contains_cons, hT, F.hasB, Bool.or_true]
  have noA : (Value.ref C :: bm).contains (.type "AttributeError") = false := by
    rw [List.contains_cons, hT, F.noAttr]
    rfl
  have noN : (Value.ref C :: bm).contains (.type "NameError") = false := by
    rw [List.contains_cons, hT, F.noName]
    rfl
  refine codeAny_builtinAt F.entry ?_
  unfold Builtin.«BaseException.__new__»
  refine wpAt_bind ?_
  show wpAt _ _ _ (stack >>= _) _ _ _
  refine wpAt_bind (wpAt_stack fun p below => wpAt_of_wpAny ?_)
  wp_walk
  refine wpAt_of_wpAny ?_
  rw [F.owner]
  repeat (first
    | with_reducible refine wpAny_madeHere_exc F.canon hC ?_
    | with_reducible refine wpAny_loadPart_at hC ?_
    | (with_reducible refine wpAny_isSubtype_exc hC ?_; first | rw [isB] | rw [noA] | rw [noN])
    | wp_step)
  show R _ _
  rw [Heap.size_push]
  exact hq
/-- type.__call__ on such a class, its __init__ a def -/
theorem type_goes (F : ExcBaseFacts B newId initId bmB) (hT : ∀ X : String, bm.contains (.type X) = bmB.contains (.type X))
    {fI : Addr} {Q : Fin → Shared → Prop}
    (hC : h.get? C = some (excClassObj nm q C N bs bm hdct sn sub ab col dd k0 k1 k2 k3 k5 newId))
    (hi : W.Looks (model prog w) h (typeLookup (.ref C) "__init__") (some (.ref fI)))
    (hb : ∀ self, W.Looks (model prog w) h (bindSpecial (.ref fI) self) (.ref fI, [self])) (hrest : rest.length ≤ sizeLine)
    (hq : codeAny (model prog w) A (.call (.ref fI) ⟨.ref (h.objs.size + 1) :: rest, kw⟩)
      (fun r s' => match r with
        | .ok (.ret v) => v = .none ∧ Q (.done (.ret (.ref (h.objs.size + 1)))) s'
        | .ok _ => False
        | .error e => E e s') ⟨(h.push (PySem.W.kdv_tup rest)).push (PySem.HandSPX.excO C h.objs.size), g, d, t, os⟩) :
    wpAny (model prog w) A (Builtin.«type.__call__» ⟨.ref C :: rest, kw⟩) Q E ⟨h, g, d, t, os⟩ := by
  repeat (first | with_reducible refine wpAny_loadPart_at hC ?_ | with_reducible refine wpAny_madeBy_exc hC ?_ | wp_step)
  refine codeAny_call_builtin_code (Code.quiet_builtin _ F.quiet) (new_checked F hT hC (new_goes F hT hC ?_ hrest))
  show wpAny _ _ _ _ _ _
  have kp : ∀ b o, h.get? b = some o →
      ((h.push (PySem.W.kdv_tup rest)).push (PySem.HandSPX.excO C h.objs.size)).get? b = some o :=
    fun b o e => Heap.get?_push_of_some _ (Heap.get?_push_of_some _ e)
  have hC1 := kp _ _ hC
  have at1 : ((h.push (PySem.W.kdv_tup rest)).push (PySem.HandSPX.excO C h.objs.size)).get? (h.objs.size + 1)
      = some (PySem.HandSPX.excO C h.objs.size) := by heap_get
  have self : (Value.ref C :: bm).contains (.ref C) = true := by simp
  unfold isInstance
  repeat (first
    | with_reducible refine wpAny_loadPart_at at1 ?_
    | (with_reducible refine wpAny_isSubtype_exc hC1 ?_; rw [self])
    | wp_step)
  show wpAny _ _ (typeLookup (.ref C) _) _ _ _
  refine (hi.keeps kp).at ?_
  refine wpAny_holding (wpAny_bind (((hb (.ref (h.objs.size + 1))).keeps kp).at ?_))
  refine wpAny_bind (wpAny_call (codeAny_mono hq fun r s' z => ?_))
  match r, z with
  | .error _, z => exact z
  | .ok .next, z => exact z.elim
  | .ok .brk, z => exact z.elim
  | .ok .cont, z => exact z.elim
  | .ok (.ret v), z =>
    obtain ⟨rfl, z⟩ := z
    first
      | exact wpAny_pure (wpAny_pure z)
      | (wp_walk; exact z)
/-- C(.., k = v, ..) -/
theorem call_goes (F : ExcBaseFacts B newId initId bmB) (hT : ∀ X : String, bm.contains (.type X) = bmB.contains (.type X))
    {fI : Addr} (hC : h.get? C = some (excClassObj nm q C N bs bm hdct sn sub ab col dd k0 k1 k2 k3 k5 newId))
    (hi : W.Looks (model prog w) h (typeLookup (.ref C) "__init__") (some (.ref fI)))
    (hb : ∀ self, W.Looks (model prog w) h (bindSpecial (.ref fI) self) (.ref fI, [self])) (hrest : rest.length ≤ sizeLine)
    (hq : codeAny (model prog w) (A.under (.builtin "type.__call__" ⟨.ref C :: rest, kw⟩))
      (.call (.ref fI) ⟨.ref (h.objs.size + 1) :: rest, kw⟩) (PySem.W.InitBack (h.objs.size + 1) R)
      ⟨(h.push (PySem.W.kdv_tup rest)).push (PySem.HandSPX.excO C h.objs.size), g, d, t, os⟩) :
    codeAny (model prog w) A (.call (.ref C) ⟨rest, kw⟩) R ⟨h, g, d, t, os⟩ := by
  have f1 := tc_lookup
  have f2 := tc_bind (.ref C)
  have ty : (⟨h, g, d, t, os⟩ : Shared).TypeIs (.ref C) "type" := ⟨_, hC, rfl⟩
  refine codeAny_of_tree ?_
  show wpAny _ _ (callAny (.ref C) _) _ _ _
  repeat (any_goals (first | assumption | with_reducible refine wpAny_loadPart_at hC ?_ | wp_step))
  refine ⟨rfl, ?_⟩
  have L0 : W.Looks (model prog w) h (typeOf (.ref C)) (.type "type") := (W.Looks.ld hC).andThen .now
  have L1 : W.Looks (model prog w) h (isInstance (.ref C) (.type "type")) true := L0.andThen (W.Looks.of_pure tc_sub)
  refine codeAny_call_builtin_at (Code.quiet_builtin _ (by decide +kernel)) entry_typeCall
    (W.check_slot tc_kind tc_split L1 (W.tc_args _ _ _) (type_goes F hT hC hi hb hrest ?_))
  refine codeAny_mono hq fun r s' z => ?_
  match r, z with
  | .error _, z => exact z
  | .ok .next, z => exact z
  | .ok .brk, z => exact z
  | .ok .cont, z => exact z
  | .ok (.ret v), z => exact z
end
end PW
/-! PW1c: exceptions of the program made by an expression -/
namespace PW
open PySem PySem.Spec PyProof.Rows L2
/-- C(..) of an exception class whose __init__ is a def: the exception and its __init__'s promise. g, gV: how the arguments come to the parameters -/
theorem run_X {X : Cx} {C fI : Addr} {k : Nat} {fd : FuncData} {ps : List Str} {sp : Sp} {us : List Value} {kw : List (Str × Value)}
    {vs : List V} {ws : List Value} {pins : List (Addr × Obj)} {σ : L2.St} {H : Hp} {s : Shared} {Q : VK}
    (T : XC X.K C) (iC : PySem.W.findIn X.K (.ref C) "__init__" = some (some (.ref fI)))
    (tI : PySem.W.typeIn X.K (.ref fI) = some (.type "function")) (F : FnOk X.prog X.w X.K X.mg X.base CX0 k fI fd ps sp)
    (hr : Room (k + 1) X.A) (I : Inv X pins σ H s) (hus : us.length ≤ 1000) (rel : Vals vs ws)
    (bnd : ∀ (a : Addr) (s' : Shared), BindsTo s' fd ⟨.ref a :: us, kw⟩ (ps.zip (.ref a :: ws)))
    (h : ∀ a, H a = none → sp (.ref a :: vs) (upd H a (exo a C none)) (fun v H2 => v = .non ∧ Q (.ref a) H2) (fun _ _ _ => False)) :
    wpAny (model X.prog X.w) X.A (call (.ref C) us kw) (EP X pins σ Q) X.xe s := by
  obtain ⟨B, newId, initId, bmB, bf, sf, mk, ov⟩ := T.base
  obtain ⟨nm, N, qn, bs, bm, hdct, sn, sub, ab, col, dd, k0, k1, k2, k3, k5, hC, hT⟩ := PySem.W.excInit_of I.kIn mk
  obtain ⟨hp, g, dr, tk, os⟩ := s
  have hn : H (hp.objs.size + 1) = none := I.hok.fresh (Nat.le_succ _)
  have kk : ∀ b o, hp.get? b = some o →
      ((hp.push (PySem.W.kdv_tup us)).push (PySem.HandSPX.excO C hp.objs.size)).get? b = some o :=
    fun b o e => Heap.get?_push_of_some _ (Heap.get?_push_of_some _ e)
  have hget : ((hp.push (PySem.W.kdv_tup us)).push (PySem.HandSPX.excO C hp.objs.size)).get? (hp.objs.size + 1)
      = some (PySem.HandSPX.excO C hp.objs.size) := by heap_get
  have I2 : Inv X pins σ (upd H (hp.objs.size + 1) (exo (hp.objs.size + 1) C none))
      ⟨(hp.push (PySem.W.kdv_tup us)).push (PySem.HandSPX.excO C hp.objs.size), g, dr, tk, os⟩ :=
    I.laid (t' := tk) (a := hp.objs.size + 1) kk (Nat.le_succ _) (exo_ok hget)
  have q0 := h _ hn
  refine wpAny_call (call_goes bf hT hC (PySem.W.looks_findIn I.kIn iC) (fun self => PySem.W.bind_fn I.kIn self tI)
    (Nat.le_trans hus (by decide)) (codeAny_mono (F.run _ X.stack _ _ ⟨.ref (hp.objs.size + 1) :: us, kw⟩
      (.ref (hp.objs.size + 1) :: ws) (V.ref (hp.objs.size + 1) :: vs) _ _ (hr.make C us kw) (I2.env0.make C us kw) (bnd _ _) (.cons rfl rel) q0) ?_))
  intro r s' z
  match r, z with
  | .error _, z => exact z.elim
  | .ok .next, z => exact z.elim
  | .ok .brk, z => exact z.elim
  | .ok .cont, z => exact z.elim
  | .ok (.ret u), z =>
    obtain ⟨v, H', J, rv, rfl, q⟩ := I2.after z
    exact ⟨rv, .ref (hp.objs.size + 1), H', J, rfl, q⟩

/-- C(e, ..) | C(k = e, ..): the reading -/
def tMkX (C : Addr) (sp : Sp) (ta : TA) : TE := fun σ H Q => ta σ H fun vs H1 => vs.length ≤ 1000 ∧ ∀ a, H1 a = none →
  sp (.ref a :: vs) (upd H1 a (exo a C none)) (fun v H2 => v = .non ∧ Q (.ref a) H2) fun _ _ _ => False
section
variable {X : Cx} {C fI : Addr} {k : Nat} {fd : FuncData} {ps : List Str} {sp : Sp} {x : Str} {p pos : Pos} {e : Expr}
  {es : List Expr} {ta : TA} {kws : List Keyword} {ks : List Str}
theorem pe_mkX (T : XC X.K C) (iC : PySem.W.findIn X.K (.ref C) "__init__" = some (some (.ref fI)))
    (tI : PySem.W.typeIn X.K (.ref fI) = some (.type "function")) (F : FnOk X.prog X.w X.K X.mg X.base CX0 k fI fd ps sp)
    (hr : Room (k + 1) X.A) (hg : Gl X x) (hm : X.mg x = some (.ref C)) (ha : PA X (e :: es) ta)
    (hbs : ∀ (s : Shared) (us : List Value), us.length = ps.length → BindsTo s fd ⟨us, []⟩ (ps.zip us))
    (hdb : (x == ("__debug__" : Str)) = false := by decide)
    (he : starEach (e :: es) X.env = (false, eval e X.env) :: starEach es X.env := by rfl)
    (hpl : (backTo pos (starEach es X.env)).any (·.1) = false := by rfl) :
    PE X (.Call (.Name x p) (e :: es) [] pos) (tMkX C sp ta) := by
  constructor
  intro pins s σ H Q I h
  refine wpAny_Call_Name_kw (ld_glob I hg hm ?_ hdb)
  refine PySem.W.callWith_K (h₀ := X.base) I.ok.mod.kin T.kp (thn (ha.run pos pins s σ H _ I h) ?_) he hpl
  rintro us s1 ⟨vs, H1, I1, r1, hz, q1⟩
  refine ⟨I1.kIn, ?_⟩
  have hl : us.length ≤ 1000 := by rw [← Paired.length r1]; exact hz
  refine run_X T iC tI F hr I1 hl r1 (fun a s' => ?_) q1
  obtain ⟨a0, n0⟩ : ∃ a0, H1 a0 = none := ⟨_, I1.hok.fresh (Nat.le_refl _)⟩
  have ar := F.len _ _ _ _ (q1 a0 n0)
  have e1 := Paired.length r1
  exact hbs s' _ (by simpa [← e1] using ar)
/-- keywords alone; perm: where each keyword's value goes -/
theorem pe_mkXk {perm : {α : Type} → List α → List α} (T : XC X.K C)
    (iC : PySem.W.findIn X.K (.ref C) "__init__" = some (some (.ref fI)))
    (tI : PySem.W.typeIn X.K (.ref fI) = some (.type "function")) (F : FnOk X.prog X.w X.K X.mg X.base CX0 k fI fd ps sp)
    (hr : Room (k + 1) X.A) (hg : Gl X x) (hm : X.mg x = some (.ref C)) (ha : PK X kws ta)
    (hrel : ∀ {vs : List V} {us : List Value}, Vals vs us → Vals (perm vs) (perm us))
    (hbs : ∀ (s : Shared) (a : Addr) (us : List Value), us.length = ks.length →
      BindsTo s fd ⟨[.ref a], ks.zip us⟩ (ps.zip (.ref a :: perm us)))
    (hpm : ∀ {α : Type} (l : List α), (perm l).length = l.length) (hps : ps.length = ks.length + 1)
    (hall : (backToKw pos (keywordEach kws X.env)).all (·.1.isSome) = true := by rfl)
    (hks : (backToKw pos (keywordEach kws X.env)).filterMap (·.1) = ks := by rfl)
    (hdb : (x == ("__debug__" : Str)) = false := by decide)
    (hpl : (backToKw pos (keywordEach kws X.env)).any (·.1.isNone) = false := by rfl) :
    PE X (.Call (.Name x p) [] kws pos) (tMkX C sp (fun σ H Q => ta σ H fun vs H1 => Q (perm vs) H1)) := by
  constructor
  intro pins s σ H Q I h
  refine wpAny_Call_Name_kw (ld_glob I hg hm ?_ hdb)
  refine PySem.W.callWith_KW0 (h₀ := X.base) I.ok.mod.kin T.kp hall (thn (ha.run pos pins s σ H _ I h) ?_) hpl
  rintro us s1 ⟨vs, H1, I1, r1, hz, q1⟩
  refine ⟨I1.kIn, ?_⟩
  rw [hks]
  refine run_X T iC tI F hr I1 (Nat.zero_le _) (hrel r1) (fun a s' => hbs s' a us ?_) q1
  obtain ⟨a0, n0⟩ : ∃ a0, H1 a0 = none := ⟨_, I1.hok.fresh (Nat.le_refl _)⟩
  have ar := F.len _ _ _ _ (q1 a0 n0)
  have e1 := Paired.length r1
  have e2 := hpm vs
  rw [hps, List.length_cons] at ar
  omega

/-- C() where the class has no __init__ of its own -/
theorem pe_mkX0 {B newId initId : String} {bmB : List Value} (T : XC X.K C) (bf : ExcBaseFacts B newId initId bmB)
    (mk : PySem.W.excInitIn X.K C bmB newId = true)
    (iC : PySem.W.findIn X.K (.ref C) "__init__" = some (some (.builtin initId)))
    (hg : Gl X x) (hm : X.mg x = some (.ref C)) (hdb : (x == ("__debug__" : Str)) = false := by decide) :
    PE X (.Call (.Name x p) [] [] pos) (fun _ H Q => ∀ a, H a = none → Q (.ref a) (upd H a (exo a C none))) := by
  constructor
  intro pins s σ H Q I h
  refine wpAny_Call_Name_kw (ld_glob I hg hm ?_ hdb)
  refine PySem.W.callWith_K0 I.kIn T.kp ?_
  obtain ⟨nm, N, qn, bs, bm, hdct, sn, sub, ab, col, dd, k0, k1, k2, k3, k5, hC, hT⟩ := PySem.W.excInit_of I.kIn mk
  have il := PySem.W.looks_findIn (M := model X.prog X.w) I.kIn iC
  obtain ⟨hp, g, dr, tk, os⟩ := s
  refine PySem.W.call_B bf hT hC il (Nat.zero_le _) fun h' k he ht => ?_
  refine ⟨.ref (hp.objs.size + 1), _, I.laid (t' := tk) (a := hp.objs.size + 1) k (Nat.le_succ _) (exo_ok he), rfl,
    h _ (I.hok.fresh (Nat.le_succ _))⟩
end

/-! ### what is asked of an exception that is tracked -/
/-- at a an exception of the class at C, its attributes fs -/
def ExAt (H : Hp) (a C : Addr) (fs : List (Str × V)) : Prop :=
  (H a = some (exo a C none) ∧ fs = []) ∨ ∃ d, H a = some (exo a C (some d)) ∧ H d = some (exd d fs)
theorem ExAt.ext {H H' : Hp} {a C : Addr} {fs : List (Str × V)} (e : ∀ b o, H b = some o → H' b = some o) (x : ExAt H a C fs) :
    ExAt H' a C fs := by
  rcases x with ⟨x, q⟩ | ⟨d, x, y⟩
  · exact .inl ⟨e _ _ x, q⟩
  · exact .inr ⟨d, e _ _ x, e _ _ y⟩
section
variable {X : Cx} {pins : List (Addr × Obj)} {σ : L2.St} {H : Hp} {s : Shared} {a C : Addr} {fs : List (Str × V)}
theorem ExAt.inst (I : Inv X pins σ H s) (x : ExAt H a C fs) : ∃ (t1 : Addr) (d : Option Addr) (od : Option Obj),
    PySem.W.InstAt s.heap a { cls := .ref C, dict := d, data := .fields #[.ref t1, .none, .none, .none, .bool false, .none] } C od ∧
    ∀ f v, fs.lookup f = some v → ∃ u o, od = some o ∧ PySem.W.lookIn f o = some (some u) ∧ RelV v u := by
  rcases x with ⟨x, rfl⟩ | ⟨d, x, y⟩
  · obtain ⟨t1, ho⟩ := exo_at I.hok x
    exact ⟨t1, none, none, ⟨ho, rfl, rfl, trivial⟩, fun f v q => nomatch q⟩
  · obtain ⟨t1, ho⟩ := exo_at I.hok x
    obtain ⟨mA, hn, rel⟩ := exd_at I.hok y
    obtain ⟨od, hod, hl⟩ := lookIn_ns hn
    refine ⟨t1, some d, some od, ⟨ho, rfl, rfl, hod⟩, fun f v q => ?_⟩
    have r := rel f
    rw [q] at r
    obtain ⟨u, hu, ru⟩ := RelO.some_of r
    exact ⟨u, od, rfl, by rw [hl, hu], ru⟩
end
/-- isinstance(e, D) -/
def rIsX (K : PySem.W.Frag) : List V → Hp → VK → Prop := fun xs H Q => ∃ (a C : Addr) (fs : List (Str × V)) (c : V) (u : Value) (b : Bool),
  xs = [.ref a, c] ∧ ClsV c u ∧ XC K C ∧ ExAt H a C fs ∧ PySem.W.kitOne K (.ref C) u = some b ∧ Q (.bl b) H
theorem call_isX {X : Cx} (A : XAll X.K) : CallR X (.builtin "isinstance") (rIsX X.K) := by
  rintro pins s σ H xs us Q I r ⟨a, C, fs, c, u, b, rfl, k, T, x, e, q⟩
  obtain ⟨u1, u2, rfl, r1, r2⟩ := vals2 r
  obtain rfl := k.eq r2
  obtain rfl : u1 = Value.ref a := r1
  obtain ⟨t1, d, od, J, _⟩ := x.inst I
  exact PySem.W.kia_one (PySem.W.kitx_exc T.cl T.ga T.gg T.ex T.ca A.gs A.tk T.mo) I.kIn J e (fun z => nomatch z)
    fun tk => ⟨.bl b, H, I.tok tk, rfl, q⟩
/-- e.f -/
def tAtt (K : PySem.W.Frag) (f : Str) (te : TE) : TE := fun σ H Q => te σ H fun x H1 => ∃ (a C : Addr) (fs : List (Str × V)) (v : V),
  x = .ref a ∧ XC K C ∧ ExAt H1 a C fs ∧ PySem.W.findIn K (.ref C) f = some none ∧ fs.lookup f = some v ∧ Q v H1
theorem pe_att {X : Cx} {e : Expr} {te : TE} {f : Str} {pos : Pos} (he : PE X e te)
    (hb : attributeBase e f X.env (eval e X.env) = eval e X.env := by rfl) : PE X (.Attribute e f pos) (tAtt X.K f te) := by
  constructor
  intro pins s σ H Q I h
  refine attr_of hb (thn (he.run pins s σ H _ I h) ?_)
  rintro u s1 ⟨x, H1, I1, rx, a, C, fs, v, rfl, T, at_, no, l, q⟩
  obtain rfl : u = Value.ref a := rx
  obtain ⟨t1, d, od, J, look⟩ := at_.inst I1
  obtain ⟨u, o, rfl, hu, ru⟩ := look f v l
  exact HandSPX.exc_get I1.kIn J T.ga T.gg T.ex (PySem.W.findObj_own T.hd no rfl hu) (handed_of ru) ⟨v, H1, I1.tok _, ru, q⟩
end PW
/-! PW2: small rules more -/
namespace PW
open PySem PySem.Spec PyProof.Rows L2 Evl
section
variable {X : Cx}
theorem reads_bools {h : Heap} : ∀ {bs : List Bool} {us : List Value}, Vals (bs.map V.bl) us → ReadsAll h us (bs.map PyData.bool) []
  | [], _, r => by
    cases r
    exact .nil
  | b :: bs, _, r => by
    cases r with
    | cons r1 r2 =>
      cases r1
      exact .cons (as := []) (bs := []) (.bool b) (reads_bools r2)
theorem all_bools : ∀ bs : List Bool, (bs.map PyData.bool).all Shape.bool.has = true
  | [] => rfl
  | b :: bs => by
    rw [List.map_cons, List.all_cons, all_bools bs]
    rfl
def rCntB (K : PySem.W.Frag) : V → List V → Hp → VK → Prop := fun x xs H Q => ∃ (p : Addr) (bs : List Bool) (k : Bool), x = .ref p ∧
  xs = [.bl k] ∧ SqL K H p (bs.map V.bl) ∧ Q (.int (countIn (.bool k) (bs.map PyData.bool))) H
/-- xs.count(True) of bools -/
theorem mt_countB : MtR X "list.count" (rCntB X.K) := by
  rintro pins s σ H x xs v us Q I rx rxs ⟨p, bs, k, rfl, rfl, hs, q⟩
  cases rx
  obtain ⟨u, rfl, ru⟩ := rxs.one
  cases ru
  obtain ⟨its, rv, ⟨o, n, ho, hc, hdn, hd⟩, hlen⟩ := I.list hs
  refine count_list_bools (l := p) (vs := its) (hp := s.heap) ⟨o, ho, hc, n, hd⟩ (reads_bools rv) (all_bools bs) ?_
  exact ⟨.int _, H, I.tok _, ⟨_, rfl⟩, q⟩
end
end PW
/-! PW3: readings that extend the heap, more of them -/
namespace PW
open PySem PySem.Spec PyProof.Rows L2 Evl
section
variable {K : PySem.W.Frag} {σ : L2.St} {H H' : Hp} {ta tb te : TE} {t : TA} {x y z v : V} {xs ys : List V}
theorem el_cat {l : Addr} (ha : Ev ta σ H (.ref l)) (hl : H l = some (.lst xs)) (hb : EvL tb σ H ys)
    (hz : xs.length + ys.length ≤ 100000) : EvL (tOp rCat ta tb) σ H (xs ++ ys) := fun H1 e Q q =>
  ha H1 e _ fun H2 e2 => hb H2 (e.trans e2) _ fun p H3 n3 e3 h3 =>
    ⟨l, p, xs, ys, rfl, rfl, ((e.trans e2).trans e3) _ _ hl, h3, sz_of hz, fun r hr =>
      q r _ (fresh_back (e2.trans e3) hr) ((e2.trans e3).trans (Ex.new hr)) upd_same⟩
theorem el_cat2 (ha : EvL ta σ H xs) (hb : EvL tb σ H ys)
    (hz : xs.length + ys.length ≤ 100000) : EvL (tOp rCat ta tb) σ H (xs ++ ys) := fun H1 e Q q =>
  ha H1 e _ fun l H2 n2 e2 h2 => hb H2 (e.trans e2) _ fun p H3 n3 e3 h3 =>
    ⟨l, p, xs, ys, rfl, rfl, e3 _ _ h2, h3, sz_of hz, fun r hr =>
      q r _ (fresh_back (e2.trans e3) hr) ((e2.trans e3).trans (Ex.new hr)) upd_same⟩
theorem ev_isX {c : V} {u : Value} {a C : Addr} {fs : List (Str × V)} {b : Bool} (ha : Ev ta σ H (.ref a)) (hc : Ev tb σ H c)
    (k : ClsV c u) (T : XC K C) (x : ExAt H a C fs) (e : PySem.W.kitOne K (.ref C) u = some b) :
    Ev (tCB (rIsX K) (tCons ta (tCons tb tNil))) σ H (.bl b) :=
  ev_cb (ea_cons ha (ea_cons hc ea_nil)) fun H1 ex Q q => ⟨a, C, fs, c, u, b, rfl, k, T, x.ext ex, e, q H1 (Ex.refl H1)⟩
theorem ev_countB {l : Addr} {bs : List Bool} {k : Bool} (ha : Ev ta σ H (.ref l)) (hl : H l = some (.lst (bs.map V.bl)))
    (hb : Ev tb σ H (.bl k)) : Ev (tBM K "list" (rCntB K) ta (tCons tb tNil)) σ H (.int (countIn (.bool k) (bs.map PyData.bool))) := fun H1 e Q q =>
  ha H1 e _ fun H2 e2 => ⟨.inl ⟨rfl, _, sq_of ((e.trans e2) _ _ hl)⟩, hb H2 (e.trans e2) _ fun H3 e3 =>
    ⟨l, bs, k, rfl, rfl, sq_of (((e.trans e2).trans e3) _ _ hl), q H3 (e2.trans e3)⟩⟩
theorem ev_index {l : Addr} {j : Nat} (ha : Ev ta σ H (.ref l)) (hl : H l = some (.lst xs)) (hb : Ev tb σ H y)
    (fy : flatV y = true) (fx : xs.all flatV = true) (hz : xs[j]? = some z) (hq : eqV z y = true)
    (hno : ∀ (m : Nat) (z' : V), m < j → xs[m]? = some z' → eqV z' y = false) :
    Ev (tBM K "list" (rIndex K) ta (tCons tb tNil)) σ H (.int (j : Nat)) := fun H1 e Q q =>
  ha H1 e _ fun H2 e2 => ⟨.inl ⟨rfl, _, sq_of ((e.trans e2) _ _ hl)⟩, hb H2 (e.trans e2) _ fun H3 e3 =>
    ⟨l, xs, y, j, z, rfl, rfl, sq_of (((e.trans e2).trans e3) _ _ hl), fy, fx, hz, hq, hno, q H3 (e2.trans e3)⟩⟩
/-- what is plain data stays so -/
theorem Dp.bools {l : Addr} {bs : List Bool} (h : H l = some (.lst (bs.map V.bl))) : Dp K H (.ref l) (.list (bs.map PyData.bool)) := by
  refine .lst (sq_of h) ?_
  clear h
  induction bs with
  | nil => exact .nil
  | cons b bs ih => exact .cons (.bl b) ih
mutual
theorem Dp.mono (e : Ex H H') : ∀ {v : V} {d : PyData}, Dp K H v d → Dp K H' v d
  | _, _, .non => .non
  | _, _, .bl b => .bl b
  | _, _, .int i => .int i
  | _, _, .str x => .str x
  | _, _, .lst h r => .lst (ex_l e h) (DpAll.mono e r)
  | _, _, .tup h r => .tup (ex_t e h) (DpAll.mono e r)
theorem DpAll.mono (e : Ex H H') : ∀ {vs : List V} {ds : List PyData}, DpAll K H vs ds → DpAll K H' vs ds
  | _, _, .nil => .nil
  | _, _, .cons h r => .cons (Dp.mono e h) (DpAll.mono e r)
end
mutual
theorem Dat.mono (e : Ex H H') : ∀ {v : V} {d : PyData}, Dat H v d → Dat H' v d
  | _, _, .non => .non
  | _, _, .bl b => .bl b
  | _, _, .int i => .int i
  | _, _, .str x => .str x
  | _, _, .lst h r => .lst (ex_rd e h) (Dats.mono e r)
  | _, _, .tup h r => .tup (ex_rd e h) (Dats.mono e r)
  | _, _, .dic h r => .dic (ex_rd e h) (Dats.mono e r)
theorem Dats.mono (e : Ex H H') : ∀ {vs : List V} {ds : List PyData}, Dats H vs ds → Dats H' vs ds
  | _, _, .nil => .nil
  | _, _, .cons h r => .cons (Dat.mono e h) (Dats.mono e r)
end
theorem ev_eqD {d e : PyData} (ha : Ev ta σ H x) (hb : Ev tb σ H y) (hx : Dp K H x d) (hy : Dp K H y e)
    (s1 : SeqAt.shaped d = true) (s2 : SeqAt.shaped e = true) : Ev (tOp (rEqD K) ta tb) σ H (.bl (PyData.eqv d e)) :=
  ev_op ha hb fun H1 ex Q q => ⟨d, e, Dp.mono ex hx, Dp.mono ex hy, s1, s2, q H1 (Ex.refl H1)⟩
theorem ev_neD {d e : PyData} (ha : Ev ta σ H x) (hb : Ev tb σ H y) (hx : Dp K H x d) (hy : Dp K H y e)
    (s1 : SeqAt.shaped d = true) (s2 : SeqAt.shaped e = true) : Ev (tOp (rNeD K) ta tb) σ H (.bl (!PyData.eqv d e)) :=
  ev_op ha hb fun H1 ex Q q => ⟨d, e, Dp.mono ex hx, Dp.mono ex hy, s1, s2, q H1 (Ex.refl H1)⟩
/-- the second operand a new list -/
theorem ev_eqDL {d e : PyData} (ha : Ev ta σ H x) (hb : EvL tb σ H ys) (hx : Dp K H x d)
    (hy : ∀ H1 p, Ex H H1 → H1 p = some (.lst ys) → Dp K H1 (.ref p) e)
    (s1 : SeqAt.shaped d = true) (s2 : SeqAt.shaped e = true) : Ev (tOp (rEqD K) ta tb) σ H (.bl (PyData.eqv d e)) :=
  ev_opL ha hb fun p H1 hp ex H2 e2 Q q => ⟨d, e, Dp.mono (ex.trans e2) hx, Dp.mono e2 (hy H1 p ex hp), s1, s2, q H2 (Ex.refl H2)⟩
theorem ev_neDL {d e : PyData} (ha : Ev ta σ H x) (hb : EvL tb σ H ys) (hx : Dp K H x d)
    (hy : ∀ H1 p, Ex H H1 → H1 p = some (.lst ys) → Dp K H1 (.ref p) e)
    (s1 : SeqAt.shaped d = true) (s2 : SeqAt.shaped e = true) : Ev (tOp (rNeD K) ta tb) σ H (.bl (!PyData.eqv d e)) :=
  ev_opL ha hb fun p H1 hp ex H2 e2 Q q => ⟨d, e, Dp.mono (ex.trans e2) hx, Dp.mono e2 (hy H1 p ex hp), s1, s2, q H2 (Ex.refl H2)⟩
theorem ev_chain {r r' : R2} {tc : TE} {w : V} {b c : Bool} (ha : Ev ta σ H x) (hb : Ev tb σ H y) (hc : Ev tc σ H w)
    (h1 : RV r x y H (.bl b)) (h2 : b = true → RV r' y w H (.bl c)) : Ev (tChain r r' ta tb tc) σ H (.bl (b && c)) := fun H1 e Q q =>
  ha H1 e _ fun H2 e2 => hb H2 (e.trans e2) _ fun H3 e3 => h1 H3 ((e.trans e2).trans e3) _ fun H4 e4 => ⟨b, rfl, by
    cases b with
    | true =>
      exact hc H4 (((e.trans e2).trans e3).trans e4) _ fun H5 e5 =>
        h2 rfl H5 ((((e.trans e2).trans e3).trans e4).trans e5) _ fun H6 e6 => q H6 ((((e2.trans e3).trans e4).trans e5).trans e6)
    | false => exact q H4 ((e2.trans e3).trans e4)⟩
/-- repr(e) -/
theorem ev_repr {d : PyData} (ha : Ev ta σ H x) (hx : Dat H x d) (sh : d.showable = true) (sz : d.shown.length ≤ sizeLine)
    (dp : d.depth ≤ 40) : Ev (tCB (rRepr K) (tCons ta tNil)) σ H (.str d.shown) :=
  ev_cb (ea_cons ha ea_nil) fun H1 e Q q => ⟨x, d, rfl, Dat.mono e hx, sh, sz, dp, q H1 (Ex.refl H1)⟩
end
end PW
/-! PW4: readings whose value is told by a property -/
namespace PW
open PySem PySem.Spec PyProof.Rows L2 Evl
/-- the abstract heap without p -/
def hide (p : Addr) (H : Hp) : Hp := fun b => if b = p then none else H b
theorem hide_ne {p b : Addr} {H : Hp} (h : b ≠ p) : hide p H b = H b := if_neg h
theorem hide_ex {p : Addr} {H : Hp} : Ex (hide p H) H := fun b o e => by
  by_cases q : b = p
  · rw [q] at e
    exact nomatch (if_pos rfl).symm.trans e
  · exact (hide_ne q).symm.trans e
/-- all but the spring at p is as it was -/
def But (p : Addr) (H H' : Hp) : Prop := ∀ b o, b ≠ p → H b = some o → H' b = some o
theorem But.hide {p : Addr} {H H' : Hp} (h : But p H H') : Ex (hide p H) (hide p H') := fun b o e => by
  by_cases q : b = p
  · rw [q] at e
    exact nomatch (if_pos rfl).symm.trans e
  · exact (hide_ne q).trans (h b o q ((hide_ne q).symm.trans e))
theorem But.of {p : Addr} {H H' : Hp} (h : Ex H H') : But p H H' := fun b o _ e => h b o e
theorem But.trans {p : Addr} {H H1 H2 : Hp} (a : But p H H1) (b : But p H1 H2) : But p H H2 := fun c o n e => b c o n (a c o n e)
theorem Ex.hide {p : Addr} {H H' : Hp} (h : Ex H H') : Ex (hide p H) (hide p H') := (But.of h).hide
/-- a new list at r stands in what is not hidden -/
theorem hide_new {p r : Addr} {H : Hp} {o : HO} (hp : H p ≠ none) (hr : H r = none) : hide p (upd H r o) r = some o :=
  (hide_ne fun (q : r = p) => hp (by rw [← q]; exact hr)).trans upd_same

/-- properties of a value that stay as the heap grows -/
def Mono {α : Type} (R : Hp → α → Prop) : Prop := ∀ H H' v, Ex H H' → R H v → R H' v
def EvR (te : TE) (σ : L2.St) (H : Hp) (R : Hp → V → Prop) : Prop := ∀ H1, Ex H H1 → ∀ Q : VK, (∀ v H2, Ex H1 H2 → R H2 v → Q v H2) → te σ H1 Q
def EvRs (ta : TA) (σ : L2.St) (H : Hp) (R : Hp → List V → Prop) : Prop :=
  ∀ H1, Ex H H1 → ∀ Q : List V → Hp → Prop, (∀ vs H2, Ex H1 H2 → R H2 vs → Q vs H2) → ta σ H1 Q
section
variable {K : PySem.W.Frag} {σ : L2.St} {H H' : Hp} {ta tb te : TE} {t : TA} {x y z v : V} {xs ys : List V} {R : Hp → V → Prop} {S : Hp → List V → Prop}
theorem EvR.mono (h : EvR te σ H R) (e : Ex H H') : EvR te σ H' R := fun H1 a => h H1 (e.trans a)
theorem EvR.imp {R' : Hp → V → Prop} (h : EvR te σ H R) (i : ∀ H1 v, Ex H H1 → R H1 v → R' H1 v) : EvR te σ H R' := fun H1 e Q q =>
  h H1 e Q fun v H2 e2 r => q v H2 e2 (i H2 v (e.trans e2) r)
theorem er_ev (h : Ev te σ H v) : EvR te σ H (fun _ u => u = v) := fun H1 e Q q => h H1 e Q fun H2 e2 => q v H2 e2 rfl
theorem er_of (h : Ev te σ H v) (r : ∀ H1, Ex H H1 → R H1 v) : EvR te σ H R := fun H1 e Q q => h H1 e Q fun H2 e2 => q v H2 e2 (r H2 (e.trans e2))
theorem ers_nil (h : ∀ H1, Ex H H1 → S H1 []) : EvRs tNil σ H S := fun H1 e Q q => q [] H1 (Ex.refl H1) (h H1 e)
theorem ers_cons {S' : Hp → List V → Prop} (hm : Mono R) (h : EvR te σ H R) (hr : EvRs t σ H S)
    (i : ∀ H1 v vs, Ex H H1 → R H1 v → S H1 vs → S' H1 (v :: vs)) : EvRs (tCons te t) σ H S' := fun H1 e Q q =>
  h H1 e _ fun v H2 e2 r => hr H2 (e.trans e2) _ fun vs H3 e3 s =>
    q (v :: vs) H3 (e2.trans e3) (i H3 v vs ((e.trans e2).trans e3) (hm _ _ _ e3 r) s)
/-- a written list of such values: where it lies, and what it holds -/
theorem er_lst (h : EvRs t σ H S) (hm : Mono S) (hz : ∀ H1 vs, S H1 vs → vs.length ≤ 100000) :
    EvR (tLst t) σ H (fun H1 v => ∃ r vs, v = .ref r ∧ H1 r = some (.lst vs) ∧ S H1 vs) := fun H1 e Q q =>
  h H1 e _ fun vs H2 e2 s => ⟨sz_of (hz _ _ s), fun r hr =>
    q (.ref r) _ (e2.trans (Ex.new hr)) ⟨r, vs, rfl, upd_same, hm _ _ _ (Ex.new hr) s⟩⟩

/-! ### plain data, made apart from a spring at p -/
def D1 (p : Addr) (d : PyData) (H : Hp) (v : V) : Prop := Dat (hide p H) v d
def Ds (p : Addr) (ds : List PyData) (H : Hp) (vs : List V) : Prop := Dats (hide p H) vs ds
theorem D1.mono {p : Addr} {d : PyData} : Mono (D1 p d) := fun _ _ _ e h => Dat.mono (Ex.hide e) h
theorem Ds.mono {p : Addr} {ds : List PyData} : Mono (Ds p ds) := fun _ _ _ e h => Dats.mono (Ex.hide e) h
theorem d_cons {p : Addr} {d : PyData} {ds : List PyData} (h : EvR te σ H (D1 p d)) (hr : EvRs t σ H (Ds p ds)) :
    EvRs (tCons te t) σ H (Ds p (d :: ds)) := ers_cons D1.mono h hr fun _ _ _ _ a b => .cons a b
theorem d_nil {p : Addr} : EvRs tNil σ H (Ds p []) := ers_nil fun _ _ => .nil
theorem d_non {p : Addr} : EvR (tC .non) σ H (D1 p .none) := er_of ev_c fun _ _ => .non
theorem d_bl {p : Addr} {b : Bool} : EvR (tC (.bl b)) σ H (D1 p (.bool b)) := er_of ev_c fun _ _ => .bl b
theorem d_int {p : Addr} {i : Int} : EvR (tC (.int i)) σ H (D1 p (.int i)) := er_of ev_c fun _ _ => .int i
theorem d_str {p : Addr} {s : Str} : EvR (tC (.str s)) σ H (D1 p (.str s)) := er_of ev_c fun _ _ => .str s
theorem d_pow {p : Addr} {i j : Int} (h : CPow i j) : EvR (tOp (rI CPow fun i j => .int (i ^ j.toNat)) (tC (.int i)) (tC (.int j))) σ H (D1 p (.int (i ^ j.toNat))) :=
  er_of (ev_op ev_c ev_c (rv_I h)) fun _ _ => .int _
theorem d_neg {p : Addr} {i : Int} : EvR (tUn (rU fun i => .int (-i)) (tC (.int i))) σ H (D1 p (.int (-i))) := er_of (ev_un ev_c ru_neg) fun _ _ => .int _
theorem d_tup {p : Addr} {ds : List PyData} (hp : H p ≠ none) (h : EvRs t σ H (Ds p ds)) (hz : ds.length ≤ 1000) : EvR (tTup t) σ H (D1 p (.tuple ds)) := fun H1 e Q q =>
  h H1 e _ fun vs H2 e2 s => ⟨sz_of (by rw [Dats.len s]; omega), fun r hr => by
    have hp2 : H2 p ≠ none := fun z => by
      obtain ⟨o, ho⟩ := Option.ne_none_iff_exists'.mp hp
      exact nomatch z.symm.trans ((e.trans e2) _ _ ho)
    exact q (.ref r) _ (e2.trans (Ex.new hr)) (.tup (.inl (hide_new hp2 hr)) (Dats.mono (Ex.hide (Ex.new hr)) s))⟩
theorem d_lst {p : Addr} {ds : List PyData} (hp : H p ≠ none) (h : EvRs t σ H (Ds p ds)) (hz : ds.length ≤ 1000) : EvR (tLst t) σ H (D1 p (.list ds)) := fun H1 e Q q =>
  h H1 e _ fun vs H2 e2 s => ⟨sz_of (by rw [Dats.len s]; omega), fun r hr => by
    have hp2 : H2 p ≠ none := fun z => by
      obtain ⟨o, ho⟩ := Option.ne_none_iff_exists'.mp hp
      exact nomatch z.symm.trans ((e.trans e2) _ _ ho)
    exact q (.ref r) _ (e2.trans (Ex.new hr)) (.lst (.inl (hide_new hp2 hr)) (Dats.mono (Ex.hide (Ex.new hr)) s))⟩
theorem d_dic0 {p : Addr} (hp : H p ≠ none) : EvR tDNewK σ H (D1 p (.dict [])) := fun H1 e Q q r hr => by
  have hp2 : H1 p ≠ none := fun z => by
    obtain ⟨o, ho⟩ := Option.ne_none_iff_exists'.mp hp
    exact nomatch z.symm.trans (e _ _ ho)
  exact q (.ref r) _ (Ex.new hr) (.dic (kvs := []) (ds := []) (.inl (hide_new hp2 hr)) .nil)
/-- {'..': e}, e a constant -/
theorem d_dic1 {p : Addr} {s : Str} {i : Int} (hp : H p ≠ none) : EvR (tDisp [(tC (.str s), tC (.int i))]) σ H (D1 p (.dict [(.str s, .int i)])) := fun H1 e Q q r hr => by
  have hp2 : H1 p ≠ none := fun z => by
    obtain ⟨o, ho⟩ := Option.ne_none_iff_exists'.mp hp
    exact nomatch z.symm.trans (e _ _ ho)
  refine ⟨upd_same, [(Sum.inr s, .int i)], rfl, Nat.le_of_ble_eq_true rfl, ?_⟩
  have eq : upd (upd H1 r (.dK [])) r (.dK (mergeK [] [(Sum.inr s, V.int i)])) = upd H1 r (.dK [(Sum.inr s, V.int i)]) := upd_upd
  rw [eq]
  exact q (.ref r) _ (Ex.new hr) (.dic (kvs := [(Sum.inr s, .int i)]) (ds := [.int i]) (.inl (hide_new hp2 hr)) (.cons (.int i) .nil))
/-- a list of such data is told by where it lies -/
theorem s_asgR {D : Ends} {i : Nat} (h : EvR te σ H R) (k : ∀ v H1, Ex H H1 → R H1 v → D.nx (σ.set i (some v)) H1) : tAsg te (gName i) D σ H :=
  h H (Ex.refl H) _ fun v H1 e r => k v H1 e r
theorem q_asgR {D : Ends} {tz : TS} {i : Nat} (h : EvR te σ H R) (k : ∀ v H1, Ex H H1 → R H1 v → tz D (σ.set i (some v)) H1) : tSeq (tAsg te (gName i)) tz D σ H :=
  s_asgR (D := { D with nx := tz D }) h k
/-- a written list of data: the list lies at r -/
def L1 (p : Addr) (ds : List PyData) (H : Hp) (v : V) : Prop := ∃ r vs, v = .ref r ∧ r ≠ p ∧ H r = some (.lst vs) ∧ Ds p ds H vs
theorem L1.mono {p : Addr} {ds : List PyData} : Mono (L1 p ds) := fun H H' v e ⟨r, vs, a, b, c, d⟩ => ⟨r, vs, a, b, e _ _ c, Ds.mono _ _ _ e d⟩
theorem l_lst {p : Addr} {ds : List PyData} (hp : H p ≠ none) (h : EvRs t σ H (Ds p ds)) (hz : ds.length ≤ 1000) : EvR (tLst t) σ H (L1 p ds) := fun H1 e Q q =>
  h H1 e _ fun vs H2 e2 s => ⟨sz_of (by rw [Dats.len s]; omega), fun r hr => by
    have hp2 : H2 p ≠ none := fun z => by
      obtain ⟨o, ho⟩ := Option.ne_none_iff_exists'.mp hp
      exact nomatch z.symm.trans ((e.trans e2) _ _ ho)
    exact q (.ref r) _ (e2.trans (Ex.new hr)) ⟨r, vs, rfl, fun z => hp2 (z ▸ hr), upd_same, Ds.mono _ _ _ (Ex.new hr) s⟩⟩
theorem dats_app {H : Hp} {ds es : List PyData} : ∀ {xs ys : List V}, Dats H xs ds → Dats H ys es → Dats H (xs ++ ys) (ds ++ es)
  | _, _, .nil, b => b
  | _, _, .cons a r, b => .cons a (dats_app r b)
theorem l_cat {p : Addr} {ds es : List PyData} (hp : H p ≠ none) (ha : EvR ta σ H (L1 p ds)) (hb : EvR tb σ H (L1 p es)) (hz : ds.length + es.length ≤ 1000) :
    EvR (tOp rCat ta tb) σ H (L1 p (ds ++ es)) := fun H1 e Q q =>
  ha H1 e _ fun v H2 e2 ⟨r, vs, ev, nr, hr, dr⟩ => hb H2 (e.trans e2) _ fun w H3 e3 ⟨r2, vs2, ew, nr2, hr2, dr2⟩ => by
    subst ev ew
    refine ⟨r, r2, vs, vs2, rfl, rfl, e3 _ _ hr, hr2, sz_of (by rw [Dats.len dr, Dats.len dr2]; omega), fun l hl => ?_⟩
    have hp2 : H3 p ≠ none := fun z => by
      obtain ⟨o, ho⟩ := Option.ne_none_iff_exists'.mp hp
      exact nomatch z.symm.trans (((e.trans e2).trans e3) _ _ ho)
    exact q (.ref l) _ ((e2.trans e3).trans (Ex.new hl)) ⟨l, _, rfl, fun z => hp2 (z ▸ hl), upd_same,
      Dats.mono (Ex.hide (Ex.new hl)) (dats_app (Dats.mono (Ex.hide e3) dr) dr2)⟩
theorem l_var {p : Addr} {ds : List PyData} {i : Nat} {v : V} (h : σ[i]? = some (some v)) (l : L1 p ds H v) : EvR (tVar i) σ H (L1 p ds) :=
  er_of (ev_var h) fun _ e => L1.mono _ _ _ e l
theorem dats_mem {H : Hp} : ∀ {xs : List V} {ds : List PyData} {x : V}, Dats H xs ds → x ∈ xs → ∃ d, d ∈ ds ∧ Dat H x d
  | _, _, _, .nil, h => by cases h
  | _, _, _, .cons a r, h => by
    rcases List.mem_cons.mp h with rfl | h
    · exact ⟨_, List.mem_cons_self, a⟩
    · obtain ⟨d, h1, h2⟩ := dats_mem r h
      exact ⟨d, List.mem_cons_of_mem _ h1, h2⟩
end
end PW
namespace PW
open PySem PySem.Spec PyProof.Rows L2 Evl
/-- a statement of the top -/
def top (i : Nat) : Stmt := PySem.Challenge.pw_pileworn_k01_errors_and_limits.main.body.getD i (.Pass ⟨0, 0, 0, 0⟩)
/-- the built-in names that nothing of the text shadows -/
structure Blt (mg : Str → Option Value) : Prop where
  len : mg "len" = none
  int : mg "int" = none
  abs : mg "abs" = none
  divmod : mg "divmod" = none
  repr : mg "repr" = none
  isi : mg "isinstance" = none
  all : mg "all" = none
  range : mg "range" = none
  max : mg "max" = none
  min : mg "min" = none
/-- a spring of draws at p -/
def SpringAt (H : Hp) (p : Addr) : Prop := ∃ l m t : Int, H p = some (.lst [.int l, .int m, .int t])
def spSpring (K : PySem.W.Frag) : Sp := fun vs H Q _ => ∃ (a : Addr) (ns : List Int) (k : Nat), vs = [.ref a, .int k] ∧
  SqL K H a (ns.map V.int) ∧ ns.length ≤ 63 ∧ k ≤ 1000 ∧
  ∀ p H', H p = none → Ex H H' → SpringAt H' p → Q (.ref p) H'
def spDraw : Sp := fun vs H Q _ => ∃ (p : Addr) (n : Int), vs = [.ref p, .int n] ∧ 0 < n ∧ n < 1000000 ∧ SpringAt H p ∧
  ∀ (d : Int) H', 0 ≤ d → d < n → But p H H' → SpringAt H' p → Q (.int d) H'
def spOf (K : PySem.W.Frag) : Sp := fun vs H Q _ => ∃ (p a : Addr) (xs : List V), vs = [.ref p, .ref a] ∧ SqL K H a xs ∧ a ≠ p ∧
  0 < xs.length ∧ xs.length < 1000000 ∧ SpringAt H p ∧
  ∀ x H', x ∈ xs → But p H H' → SpringAt H' p → Q x H'
/-! ### the law's own draws: _law_spring, _law_draw, _law_of -/
abbrev sSpring : Stmt := top 31
abbrev sDraw : Stmt := top 32
abbrev sOf : Stmt := top 33
theorem scSpring : FnScope ["_law_cells", "_law_k", "_law_cell", "_law_mixed", "_law_number"] ["_law_cells", "_law_k"] (defScope sSpring) :=
  ⟨rfl, rfl, rfl, by decide +kernel, rfl, by decide +kernel, by decide +kernel⟩
theorem scDraw : FnScope ["_law_spring_here", "_law_size", "_law_digit", "_law_far", "_law_mixed"] ["_law_spring_here", "_law_size"] (defScope sDraw) :=
  ⟨rfl, rfl, rfl, by decide +kernel, rfl, by decide +kernel, by decide +kernel⟩
theorem scOf : FnScope ["_law_spring_here", "_law_menu"] ["_law_spring_here", "_law_menu"] (defScope sOf) :=
  ⟨rfl, rfl, rfl, by decide +kernel, rfl, by decide +kernel, by decide +kernel⟩
section
variable {P : Program} {w : World} {K : PySem.W.Frag} {mg : Str → Option Value} {base : Heap}
theorem ok_spring {f : Addr} {fd : FuncData} {j : Nat} (F : Fun K "_law_spring" "_law_spring" sSpring f fd) (B : Blt mg) :
    FnOk P w K mg base CX0 (j + 1) f fd ["_law_cells", "_law_k"] (spSpring K) := by
  refine F.ok scSpring (fun vs H Q E h => ?_) (fun cdv A outer s H vs Q E hr h => ?_)
  · obtain ⟨a, ns, k, rfl, _⟩ := h
    rfl
  · obtain ⟨a, ns, k, rfl, hS, hlen, hk, k0⟩ := h
    refine ⟨_, pss_cons (ps_set (i := 2) scSpring.nd rfl (.inl rfl) (pe_ifExp
        (pt_cmpR op_lt (pv 1) (pe_callB call_len_seq (by rfl) B.len PySem.boot_len (pa_cons (pv 0) pa_nil)) (nomark _))
        (pe_ix ix_list (pv 0) (pv 1) (fun _ _ => rfl)) (pe_op op_add (pe_op op_mul pe_int (pv 1)) pe_int)))
      (pss_cons (ps_set (i := 3) scSpring.nd rfl (.inl rfl) (pe_op op_add pe_int (pe_op op_mul pe_int (pv 1))))
      (pss_cons (ps_for PassesOwn.never rfl
        (pi_list (pe_op op_cat (pe_slice sl_list (pv 0) po_none (po_some pe_int)) (pe_lst (pa_cons (pv 2) pa_nil))))
        (pg_name (i := 4) scSpring.nd rfl (.inl rfl))
        (pss_one (ps_set (i := 3) scSpring.nd rfl (.inl rfl) (pe_op op_mod
          (pe_callTy call_int1 (by rfl) B.int PyProof.Rows.Boot.int (pa_cons (pe_op op_add (pe_op op_add (pe_op op_mul (pv 3) pe_int)
            (pe_callTy call_int1 (by rfl) B.int PyProof.Rows.Boot.int (pa_cons (pv 4) pa_nil))) (pe_op op_mul pe_int (pv 1))) pa_nil)) pe_int))))
      (pss_one (ps_ret (pe_lst (pa_cons (pe_ifExp (pw_or (pt_cmpR op_lt (pv 2) pe_int (nomark _))
          (pw_or1 (pt_cmpR op_ge (pv 2) (pe_op op_pow pe_int pe_int) (nomark _)))).pt
          (pe_callB call_abs (by rfl) B.abs (by decide +kernel) (pa_cons (pv 2) pa_nil)) pe_int) (pa_cons (pv 3) (pa_cons pe_int pa_nil)))))))), ?_⟩
    -- _law_cell
    obtain ⟨cell, hcell⟩ : ∃ c : Int, ∀ Q : VK, Q (.int c) H → (tIf (tTest (tOp (rI0 fun i j => .bl (decide (i < j))) (tVar 1)
        (tCB (fun xs H Q => ∃ p ys, xs = [.ref p] ∧ (SqL K H p ys ∨ SqT K H p ys) ∧ Q (.int ys.length) H) (tCons (tVar 0) tNil))))
        (tOp (rIxL K) (tVar 0) (tVar 1)) (tOp (rI0 fun i j => .int (i + j)) (tOp (rI CMul fun i j => .int (i * j)) (tC (.int 7)) (tVar 1)) (tC (.int 2))))
        [some (.ref a), some (.int k), none, none, none] H Q := by
      by_cases hkn : k < ns.length
      · refine ⟨ns[k], fun Q q => ?_⟩
        refine ⟨.int k, rfl, .ref a, rfl, a, _, rfl, .inl hS, _, _, rfl, rfl, _, rfl, ?_⟩
        rw [decide_eq_true (by rw [List.length_map]; omega)]
        refine iteT ⟨.ref a, rfl, .int k, rfl, a, _, (k : Int), .int ns[k], rfl, rfl, hS, atI_nat ?_, q⟩
        rw [List.getElem?_map, List.getElem?_eq_getElem hkn]
        rfl
      · refine ⟨7 * (k : Int) + 2, fun Q q => ?_⟩
        refine ⟨.int k, rfl, .ref a, rfl, a, _, rfl, .inl hS, _, _, rfl, rfl, _, rfl, ?_⟩
        rw [decide_eq_false (by rw [List.length_map]; omega)]
        exact iteF ⟨.int k, rfl, 7, (k : Int), rfl, rfl, .inl ⟨by decide, by decide⟩, _, _, rfl, rfl, q⟩
    refine hcell _ ?_
    -- _law_mixed
    refine ⟨.int k, rfl, 7919, (k : Int), rfl, rfl, .inl ⟨by decide, by decide⟩, _, _, rfl, rfl, ?_⟩
    -- the loop
    refine ⟨.ref a, rfl, 8, rfl, a, ns.map V.int, rfl, hS, fun p1 n1 => ?_⟩
    refine ⟨.int cell, rfl, by show 1 ≤ sizeLine; decide, fun p2 n2 => ?_⟩
    have e1 : Ex H (upd H p1 (.lst (cutV (ns.map V.int) none (some 8)))) := Ex.new n1
    have e2 := Ex.new (o := .lst [V.int cell]) n2
    obtain ⟨ms, hms, hml⟩ : ∃ ms : List Int, cutV (ns.map V.int) none (some 8) = ms.map V.int ∧ ms.length ≤ 8 := by
      refine ⟨ns.take 8, ?_, by rw [List.length_take]; omega⟩
      unfold cutV
      rw [show HT.sIx (ns.map V.int).length (ns.map V.int).length (some 8) = min 8 (ns.map V.int).length from HT.sIx_nat _ _ 8, HT.sIx_none]
      rw [List.drop_zero, Nat.sub_zero, List.map_take]
      apply List.ext_getElem?
      intro i
      simp only [List.getElem?_take]
      by_cases hi : i < 8
      · by_cases hj : i < (ns.map V.int).length
        · rw [if_pos (by omega), if_pos hi]
        · rw [if_neg (by omega), if_pos hi]
          exact (List.getElem?_eq_none (by omega)).symm
      · rw [if_neg (by omega), if_neg hi]
    refine ⟨p1, p2, _, [.int cell], rfl, rfl, e2 _ _ upd_same, upd_same, ?_, fun p3 n3 => ?_⟩
    · rw [hms, List.length_map]
      show ms.length + 1 ≤ sizeLine
      exact Nat.le_trans (by omega) (show 9 ≤ sizeLine by decide)
    have e3 := Ex.new (o := .lst (cutV (ns.map V.int) none (some 8) ++ [V.int cell])) n3
    have eH := (e1.trans e2).trans e3
    have eL : cutV (ns.map V.int) none (some 8) ++ [V.int cell] = (ms ++ [cell]).map V.int := by rw [hms]; simp
    have h3 : (upd (upd (upd H p1 (.lst (cutV (ns.map V.int) none (some 8)))) p2 (.lst [.int cell])) p3
        (.lst (cutV (ns.map V.int) none (some 8) ++ [V.int cell]))) p3 = some (.lst ((ms ++ [cell]).map V.int)) := by rw [← eL]; exact upd_same
    refine ⟨p3, rfl, ⟨_, sq_of h3⟩, for_list (K := K) (a := p3) (xs := (ms ++ [cell]).map V.int)
      (fun i σ H' => ∃ (m : Int) (y : Option V), σ = [some (.ref a), some (.int k), some (.int cell), some (.int m), y] ∧ Ex H H' ∧
        H' p3 = some (.lst ((ms ++ [cell]).map V.int))) ⟨_, none, rfl, eH, h3⟩ (fun i σ H' _ ⟨_, _, _, _, q⟩ => sq_of q) ?_ ?_⟩
    · rintro i y σ H' hi ⟨m, yo, rfl, ex, q⟩
      obtain ⟨z, rfl⟩ : ∃ z, y = V.int z := by
        rw [List.getElem?_map] at hi
        obtain ⟨z, _, rfl⟩ := Option.map_eq_some_iff.mp hi
        exact ⟨z, rfl⟩
      refine ⟨.int m, rfl, m, 48271, rfl, rfl, .inr ⟨by decide, by decide⟩, ?_⟩
      refine ⟨.int z, rfl, .inl ⟨z, rfl, _, _, rfl, rfl, ?_⟩⟩
      refine ⟨.int k, rfl, 11, (k : Int), rfl, rfl, .inl ⟨by decide, by decide⟩, _, _, rfl, rfl, .inl ⟨_, rfl, ?_⟩⟩
      refine ⟨_, 2147483647, rfl, rfl, (by show (0 : Int) < 2147483647; decide), ?_⟩
      exact ⟨_, _, rfl, ex, q⟩
    · rintro σ H' ⟨m, yo, rfl, ex, q⟩
      -- return [.., .., 0]
      have done : ∀ (l : Int), ∀ p, H' p = none → Q (.ref p) (upd H' p (.lst [.int l, .int m, .int 0])) := fun l p n =>
        k0 p _ (fresh_back ex n) (ex.trans (Ex.new n)) ⟨l, m, 0, upd_same⟩
      have abs_ : ∀ c : Bool, c = true → ∃ i, [V.int cell] = [.int i] ∧ True := fun _ _ => ⟨_, rfl, trivial⟩
      refine ⟨.int cell, rfl, cell, 0, rfl, rfl, _, rfl, ?_⟩
      by_cases h1 : cell < 0
      · rw [decide_eq_true h1]
        exact ⟨.int cell, rfl, cell, rfl, .int m, rfl, by show 3 ≤ sizeLine; decide, done _⟩
      · rw [decide_eq_false h1]
        refine iteF ⟨.int cell, rfl, 10, 18, rfl, rfl, ⟨by decide, by decide, by decide⟩, cell, _, rfl, rfl, _, rfl, ?_⟩
        by_cases h2 : (10 : Int) ^ 18 ≤ cell
        · rw [show decide ((10 : Int) ^ Int.toNat 18 ≤ cell) = true from decide_eq_true h2]
          exact ⟨.int cell, rfl, cell, rfl, .int m, rfl, by show 3 ≤ sizeLine; decide, done _⟩
        · rw [show decide ((10 : Int) ^ Int.toNat 18 ≤ cell) = false from decide_eq_false h2]
          exact ⟨.int m, rfl, by show 3 ≤ sizeLine; decide, done 0⟩

theorem ok_draw {f : Addr} {fd : FuncData} {j : Nat} (F : Fun K "_law_draw" "_law_draw" sDraw f fd) (B : Blt mg) :
    FnOk P w K mg base CX0 (j + 1) f fd ["_law_spring_here", "_law_size"] spDraw := by
  refine F.ok scDraw (fun vs H Q E h => ?_) (fun cdv A outer s H vs Q E hr h => ?_)
  · obtain ⟨p, n, rfl, _⟩ := h
    rfl
  · obtain ⟨p, n, rfl, n0, n1, ⟨l, m, t, hp⟩, k⟩ := h
    refine ⟨_, pss_cons (ps_asg (pe_op op_add (pe_ix ix_list (pv 0) pe_int (fun _ _ => rfl)) pe_int) (pg_sub (pv 0) pe_int set_list))
      (pss_cons (ps_asg (pe_op op_mod (pe_callTy call_int1 (by rfl) B.int PyProof.Rows.Boot.int (pa_cons (pe_op op_add (pe_op op_add
          (pe_op op_mul (pe_ix ix_list (pv 0) pe_int (fun _ _ => rfl)) pe_int)
          (pe_op op_mul pe_int (pe_ix ix_list (pv 0) pe_int (fun _ _ => rfl)))) pe_int) pa_nil)) pe_int) (pg_sub (pv 0) pe_int set_list))
      (pss_cons (ps_if (pt_cmpR op_gt (pe_ix ix_list (pv 0) pe_int (fun _ _ => rfl)) pe_int (nomark _))
        (pss_cons (ps_asg (pe_callB call_divmod (by rfl) B.divmod (by decide +kernel) (pa_cons (pe_ix ix_list (pv 0) pe_int (fun _ _ => rfl)) (pa_cons (pv 1) pa_nil)))
            (pg_tup rfl (pgs_cons (pg_sub (pv 0) pe_int set_list) (pgs_cons (pg_name (i := 2) scDraw.nd rfl (.inl rfl)) pgs_nil))))
          (pss_one (ps_ret (pv 2)))) pss_nil)
      (pss_cons (ps_set (i := 3) scDraw.nd rfl (.inl rfl) (pe_op op_add (pe_ix ix_list (pv 0) pe_int (fun _ _ => rfl)) pe_int))
      (pss_cons (ps_set (i := 4) scDraw.nd rfl (.inl rfl) (pe_op op_mod (pe_callTy call_int1 (by rfl) B.int PyProof.Rows.Boot.int
          (pa_cons (pe_op op_add (pe_op op_mul (pv 3) (pe_ix ix_list (pv 0) pe_int (fun _ _ => rfl))) (pe_ix ix_list (pv 0) pe_int (fun _ _ => rfl))) pa_nil)) pe_int))
      (pss_one (ps_ret (pe_op op_mod (pe_callTy call_int1 (by rfl) B.int PyProof.Rows.Boot.int (pa_cons (pe_op op_fdiv (pv 4) pe_int) pa_nil)) (pv 1)))))))), ?_⟩
    -- item 2
    refine ⟨.ref p, rfl, p, _, 2, .int t, rfl, rfl, sq_of hp, rfl, t, 1, rfl, rfl, .ref p, rfl, p, _, 2, 2, rfl, rfl, hp, rfl, ?_⟩
    have h1 : (upd H p (.lst ([V.int l, V.int m, V.int t].set 2 (.int (t + 1))))) p = some (.lst [.int l, .int m, .int (t + 1)]) := upd_same
    -- item 1
    refine ⟨.ref p, rfl, p, _, 1, .int m, rfl, rfl, sq_of h1, rfl, m, 69621, rfl, rfl, .inr ⟨by decide, by decide⟩, ?_⟩
    refine ⟨.ref p, rfl, p, _, 2, .int (t + 1), rfl, rfl, sq_of h1, rfl, 40503, t + 1, rfl, rfl, .inl ⟨by decide, by decide⟩, _, _, rfl, rfl, _, 1, rfl, rfl, .inl ⟨_, rfl, ?_⟩⟩
    refine ⟨_, 2147483647, rfl, rfl, (by show (0 : Int) < 2147483647; decide), .ref p, rfl, p, _, 1, 1, rfl, rfl, h1, rfl, ?_⟩
    obtain ⟨m', hm⟩ : ∃ m', m' = (m * 69621 + 40503 * (t + 1) + 1) % 2147483647 := ⟨_, rfl⟩
    have hm0 : 0 ≤ m' := hm ▸ Int.emod_nonneg _ (by decide)
    have hm1 : m' < 2147483647 := hm ▸ Int.emod_lt_of_pos _ (by decide)
    obtain ⟨H2, hH2⟩ : ∃ H2, H2 = upd (upd H p (.lst ([V.int l, V.int m, V.int t].set 2 (.int (t + 1))))) p
      (.lst ([V.int l, V.int m, V.int (t + 1)].set 1 (.int ((m * 69621 + 40503 * (t + 1) + 1) % 2147483647)))) := ⟨_, rfl⟩
    have h2 : H2 p = some (.lst [.int l, .int m', .int (t + 1)]) := by rw [hH2, hm]; exact upd_same
    have but2 : But p H H2 := fun b o ne e => by rw [hH2]; exact (upd_ne ne).trans ((upd_ne ne).trans e)
    refine hH2 ▸ ?_
    -- if
    refine ⟨.ref p, rfl, p, _, 0, .int l, rfl, rfl, sq_of h2, rfl, l, 0, rfl, rfl, _, rfl, ?_⟩
    refine ite2 (fun _ => ?_) (fun _ => ?_)
    · refine ⟨.ref p, rfl, p, _, 0, .int l, rfl, rfl, sq_of h2, rfl, .int n, rfl, l, n, rfl, ⟨n0, by omega⟩, fun q nq => ?_⟩
      have nqp : p ≠ q := ne_of_none h2 nq
      have h3 : (upd H2 q (.tup [.int (l / n), .int (l % n)])) p = some (.lst [.int l, .int m', .int (t + 1)]) :=
        (upd_ne nqp).trans h2
      refine ⟨q, [.int (l / n), .int (l % n)], rfl, st_of upd_same, rfl, .int (l / n), [.int (l % n)], rfl, .ref p, rfl, p, _, 0, 0, rfl, rfl, h3, rfl, ?_⟩
      refine ⟨.int (l % n), [], rfl, rfl, ?_⟩
      refine ⟨.int (l % n), rfl, k (l % n) _ (Int.emod_nonneg _ (by omega)) (Int.emod_lt_of_pos _ n0) (fun b o ne e => ?_) ⟨l / n, m', t + 1, upd_same⟩⟩
      have nb : b ≠ q := ne_of_none (but2 b o ne e) nq
      exact (upd_ne ne).trans ((upd_ne nb).trans (but2 b o ne e))
    · refine ⟨.ref p, rfl, p, _, 1, .int m', rfl, rfl, sq_of h2, rfl, m', 12345, rfl, rfl, ?_⟩
      refine ⟨.int (m' + 12345), rfl, .ref p, rfl, p, _, 1, .int m', rfl, rfl, sq_of h2, rfl, m' + 12345, m', rfl, rfl, .inr ⟨by omega, by omega⟩, ?_⟩
      refine ⟨.ref p, rfl, p, _, 2, .int (t + 1), rfl, rfl, sq_of h2, rfl, _, t + 1, rfl, rfl, .inl ⟨_, rfl, ?_⟩⟩
      refine ⟨_, 2147483629, rfl, rfl, (by show (0 : Int) < 2147483629; decide), ?_⟩
      refine ⟨_, rfl, _, 256, rfl, rfl, ⟨by decide, by decide⟩, .inl ⟨_, rfl, .int n, rfl, _, n, rfl, rfl, n0, ?_⟩⟩
      exact k _ _ (Int.emod_nonneg _ (by omega)) (Int.emod_lt_of_pos _ n0) but2 ⟨l, m', t + 1, h2⟩
theorem ok_of {f fD : Addr} {fd fdD : FuncData} {j : Nat} (F : Fun K "_law_of" "_law_of" sOf f fd) (B : Blt mg)
    (FD : Fun K "_law_draw" "_law_draw" sDraw fD fdD) (bD : Binds K fdD ["_law_spring_here", "_law_size"] []) (gD : mg "_law_draw" = some (.ref fD)) :
    FnOk P w K mg base CX0 (j + 2) f fd ["_law_spring_here", "_law_menu"] (spOf K) := by
  have GD : FnOk P w K mg base CX0 (j + 1) fD fdD ["_law_spring_here", "_law_size"] spDraw := ok_draw FD B
  refine F.ok scOf (fun vs H Q E h => ?_) (fun cdv A outer s H vs Q E hr h => ?_)
  · obtain ⟨p, a, xs, rfl, _⟩ := h
    rfl
  · obtain ⟨p, a, xs, rfl, hS, ne, l0, l1, sp, k⟩ := h
    refine ⟨_, pss_one (ps_ret (pe_ix ix_list (pv 1) (pe_call GD hr (by rfl) gD FD.kp bD .nil pass0 (pa_cons (pv 0) (pa_cons
      (pe_callB call_len_seq (by rfl) B.len PySem.boot_len (pa_cons (pv 1) pa_nil)) pa_nil))) (fun _ _ => rfl))), ?_⟩
    refine ⟨.ref a, rfl, .ref p, rfl, .ref a, rfl, a, xs, rfl, .inl hS, p, (xs.length : Int), rfl, by omega, by omega, sp, fun d H' d0 d1 but sp' => ?_⟩
    obtain ⟨i, rfl⟩ : ∃ i : Nat, d = (i : Int) := ⟨d.toNat, by omega⟩
    have hi : i < xs.length := by omega
    refine ⟨a, xs, (i : Int), xs[i], rfl, rfl, ?_, atI_nat (List.getElem?_eq_getElem hi), k _ _ (List.getElem_mem hi) but sp'⟩
    rcases hS with (h | ⟨o, h⟩) | h
    · exact .inl (.inl (but _ _ ne h))
    · exact .inl (.inr ⟨o, but _ _ ne h⟩)
    · exact .inr h
end
end PW
namespace PW
open PySem PySem.Spec PyProof.Rows L2 Evl
/-! ### the classes of errors -/
theorem bIsi : bootBuiltins "isinstance" = some (.builtin "isinstance") := by decide +kernel
theorem bPy0 : bootBuiltins "ValueError" = some (.type "ValueError") := by decide +kernel
theorem bPy1 : bootBuiltins "LookupError" = some (.type "LookupError") := by decide +kernel
theorem bPy2 : bootBuiltins "ArithmeticError" = some (.type "ArithmeticError") := by decide +kernel
def errN : List Str := ["InvalidText", "InvalidNumber", "InvalidPlate", "InvalidName", "InvalidWish", "NotARule", "InvalidRows", "InvalidChoices", "InvalidTakes", "InvalidSeen", "InvalidExchanges", "InvalidWishes", "UnknownName", "InUse", "NotLet", "NotRound", "RunsOut", "Broken", "NothingToUndo"]
/-- which of the three bases: 0, 1, 2 -/
def baseW (i : Nat) : Nat := if i < 12 then 0 else if i < 14 then 1 else if i < 19 then 2 else i - 19
/-- isinstance of an error of the i-th class and the j-th one (19 to 21: the bases, 22 to 24: Python's own) -/
def kitW (i j : Nat) : Bool := if j < 19 then i == j else if j < 22 then baseW i == j - 19 else baseW i == j - 22
abbrev sIni0 : Stmt := inClass (top 2) 0
abbrev sIni1 : Stmt := inClass (top 3) 0
abbrev sIni2 : Stmt := inClass (top 4) 0
abbrev sIni3 : Stmt := inClass (top 5) 0
abbrev sIni4 : Stmt := inClass (top 6) 0
abbrev sIni5 : Stmt := inClass (top 7) 0
abbrev sIni6 : Stmt := inClass (top 8) 0
abbrev sIni7 : Stmt := inClass (top 9) 0
abbrev sIni8 : Stmt := inClass (top 10) 0
abbrev sIni9 : Stmt := inClass (top 11) 0
abbrev sIni10 : Stmt := inClass (top 12) 0
abbrev sIni11 : Stmt := inClass (top 13) 0
abbrev sIni12 : Stmt := inClass (top 15) 0
abbrev sIni13 : Stmt := inClass (top 16) 0
abbrev sIni14 : Stmt := inClass (top 18) 0
abbrev sIni15 : Stmt := inClass (top 19) 0
abbrev sIni16 : Stmt := inClass (top 20) 0
abbrev sIni17 : Stmt := inClass (top 21) 0
structure Errs (K : PySem.W.Frag) (mg : Str → Option Value) (c f : Nat → Addr) (fd : Nat → FuncData) : Prop where
  all : XAll K
  xc : ∀ i, i < 22 → XC K (c i)
  kt : ∀ i j, i < 22 → j < 22 → PySem.W.kitOne K (.ref (c i)) (.ref (c j)) = some (kitW i j)
  kp0 : ∀ i, i < 22 → PySem.W.kitOne K (.ref (c i)) (.type "ValueError") = some (kitW i 22)
  kp1 : ∀ i, i < 22 → PySem.W.kitOne K (.ref (c i)) (.type "LookupError") = some (kitW i 23)
  kp2 : ∀ i, i < 22 → PySem.W.kitOne K (.ref (c i)) (.type "ArithmeticError") = some (kitW i 24)
  py0 : mg "ValueError" = none
  py1 : mg "LookupError" = none
  py2 : mg "ArithmeticError" = none
  g0 : mg "InvalidText" = some (.ref (c 0))
  g1 : mg "InvalidNumber" = some (.ref (c 1))
  g2 : mg "InvalidPlate" = some (.ref (c 2))
  g3 : mg "InvalidName" = some (.ref (c 3))
  g4 : mg "InvalidWish" = some (.ref (c 4))
  g5 : mg "NotARule" = some (.ref (c 5))
  g6 : mg "InvalidRows" = some (.ref (c 6))
  g7 : mg "InvalidChoices" = some (.ref (c 7))
  g8 : mg "InvalidTakes" = some (.ref (c 8))
  g9 : mg "InvalidSeen" = some (.ref (c 9))
  g10 : mg "InvalidExchanges" = some (.ref (c 10))
  g11 : mg "InvalidWishes" = some (.ref (c 11))
  g12 : mg "UnknownName" = some (.ref (c 12))
  g13 : mg "InUse" = some (.ref (c 13))
  g14 : mg "NotLet" = some (.ref (c 14))
  g15 : mg "NotRound" = some (.ref (c 15))
  g16 : mg "RunsOut" = some (.ref (c 16))
  g17 : mg "Broken" = some (.ref (c 17))
  g18 : mg "NothingToUndo" = some (.ref (c 18))
  g19 : mg "WrongValue" = some (.ref (c 19))
  g20 : mg "WrongName" = some (.ref (c 20))
  g21 : mg "NoAnswer" = some (.ref (c 21))
  i0 : PySem.W.findIn K (.ref (c 0)) "__init__" = some (some (.ref (f 0)))
  t0 : PySem.W.typeIn K (.ref (f 0)) = some (.type "function")
  F0 : Fun K "__init__" "InvalidText.__init__" sIni0 (f 0) (fd 0)
  n0g : PySem.W.findIn K (.ref (c 0)) "given" = some none
  i1 : PySem.W.findIn K (.ref (c 1)) "__init__" = some (some (.ref (f 1)))
  t1 : PySem.W.typeIn K (.ref (f 1)) = some (.type "function")
  F1 : Fun K "__init__" "InvalidNumber.__init__" sIni1 (f 1) (fd 1)
  n1g : PySem.W.findIn K (.ref (c 1)) "given" = some none
  i2 : PySem.W.findIn K (.ref (c 2)) "__init__" = some (some (.ref (f 2)))
  t2 : PySem.W.typeIn K (.ref (f 2)) = some (.type "function")
  F2 : Fun K "__init__" "InvalidPlate.__init__" sIni2 (f 2) (fd 2)
  n2g : PySem.W.findIn K (.ref (c 2)) "given" = some none
  i3 : PySem.W.findIn K (.ref (c 3)) "__init__" = some (some (.ref (f 3)))
  t3 : PySem.W.typeIn K (.ref (f 3)) = some (.type "function")
  F3 : Fun K "__init__" "InvalidName.__init__" sIni3 (f 3) (fd 3)
  n3g : PySem.W.findIn K (.ref (c 3)) "given" = some none
  i4 : PySem.W.findIn K (.ref (c 4)) "__init__" = some (some (.ref (f 4)))
  t4 : PySem.W.typeIn K (.ref (f 4)) = some (.type "function")
  F4 : Fun K "__init__" "InvalidWish.__init__" sIni4 (f 4) (fd 4)
  n4g : PySem.W.findIn K (.ref (c 4)) "given" = some none
  i5 : PySem.W.findIn K (.ref (c 5)) "__init__" = some (some (.ref (f 5)))
  t5 : PySem.W.typeIn K (.ref (f 5)) = some (.type "function")
  F5 : Fun K "__init__" "NotARule.__init__" sIni5 (f 5) (fd 5)
  n5g : PySem.W.findIn K (.ref (c 5)) "given" = some none
  i6 : PySem.W.findIn K (.ref (c 6)) "__init__" = some (some (.ref (f 6)))
  t6 : PySem.W.typeIn K (.ref (f 6)) = some (.type "function")
  F6 : Fun K "__init__" "InvalidRows.__init__" sIni6 (f 6) (fd 6)
  n6i : PySem.W.findIn K (.ref (c 6)) "index" = some none
  i7 : PySem.W.findIn K (.ref (c 7)) "__init__" = some (some (.ref (f 7)))
  t7 : PySem.W.typeIn K (.ref (f 7)) = some (.type "function")
  F7 : Fun K "__init__" "InvalidChoices.__init__" sIni7 (f 7) (fd 7)
  n7i : PySem.W.findIn K (.ref (c 7)) "index" = some none
  i8 : PySem.W.findIn K (.ref (c 8)) "__init__" = some (some (.ref (f 8)))
  t8 : PySem.W.typeIn K (.ref (f 8)) = some (.type "function")
  F8 : Fun K "__init__" "InvalidTakes.__init__" sIni8 (f 8) (fd 8)
  n8i : PySem.W.findIn K (.ref (c 8)) "index" = some none
  i9 : PySem.W.findIn K (.ref (c 9)) "__init__" = some (some (.ref (f 9)))
  t9 : PySem.W.typeIn K (.ref (f 9)) = some (.type "function")
  F9 : Fun K "__init__" "InvalidSeen.__init__" sIni9 (f 9) (fd 9)
  n9i : PySem.W.findIn K (.ref (c 9)) "index" = some none
  i10 : PySem.W.findIn K (.ref (c 10)) "__init__" = some (some (.ref (f 10)))
  t10 : PySem.W.typeIn K (.ref (f 10)) = some (.type "function")
  F10 : Fun K "__init__" "InvalidExchanges.__init__" sIni10 (f 10) (fd 10)
  n10i : PySem.W.findIn K (.ref (c 10)) "index" = some none
  i11 : PySem.W.findIn K (.ref (c 11)) "__init__" = some (some (.ref (f 11)))
  t11 : PySem.W.typeIn K (.ref (f 11)) = some (.type "function")
  F11 : Fun K "__init__" "InvalidWishes.__init__" sIni11 (f 11) (fd 11)
  n11i : PySem.W.findIn K (.ref (c 11)) "index" = some none
  i12 : PySem.W.findIn K (.ref (c 12)) "__init__" = some (some (.ref (f 12)))
  t12 : PySem.W.typeIn K (.ref (f 12)) = some (.type "function")
  F12 : Fun K "__init__" "UnknownName.__init__" sIni12 (f 12) (fd 12)
  n12g : PySem.W.findIn K (.ref (c 12)) "given" = some none
  i13 : PySem.W.findIn K (.ref (c 13)) "__init__" = some (some (.ref (f 13)))
  t13 : PySem.W.typeIn K (.ref (f 13)) = some (.type "function")
  F13 : Fun K "__init__" "InUse.__init__" sIni13 (f 13) (fd 13)
  n13i : PySem.W.findIn K (.ref (c 13)) "index" = some none
  i14 : PySem.W.findIn K (.ref (c 14)) "__init__" = some (some (.ref (f 14)))
  t14 : PySem.W.typeIn K (.ref (f 14)) = some (.type "function")
  F14 : Fun K "__init__" "NotLet.__init__" sIni14 (f 14) (fd 14)
  n14g : PySem.W.findIn K (.ref (c 14)) "given" = some none
  i15 : PySem.W.findIn K (.ref (c 15)) "__init__" = some (some (.ref (f 15)))
  t15 : PySem.W.typeIn K (.ref (f 15)) = some (.type "function")
  F15 : Fun K "__init__" "NotRound.__init__" sIni15 (f 15) (fd 15)
  n15g : PySem.W.findIn K (.ref (c 15)) "given" = some none
  i16 : PySem.W.findIn K (.ref (c 16)) "__init__" = some (some (.ref (f 16)))
  t16 : PySem.W.typeIn K (.ref (f 16)) = some (.type "function")
  F16 : Fun K "__init__" "RunsOut.__init__" sIni16 (f 16) (fd 16)
  n16s : PySem.W.findIn K (.ref (c 16)) "shown" = some none
  i17 : PySem.W.findIn K (.ref (c 17)) "__init__" = some (some (.ref (f 17)))
  t17 : PySem.W.typeIn K (.ref (f 17)) = some (.type "function")
  F17 : Fun K "__init__" "Broken.__init__" sIni17 (f 17) (fd 17)
  n17i : PySem.W.findIn K (.ref (c 17)) "index" = some none
  n17s : PySem.W.findIn K (.ref (c 17)) "shown" = some none
  i18 : PySem.W.findIn K (.ref (c 18)) "__init__" = some (some (.builtin "ArithmeticError.__init__"))
  m18 : PySem.W.excInitIn K (c 18) [.type "ArithmeticError", .type "Exception", .type "BaseException", .type "object"] "ArithmeticError.__new__" = true
  i19 : PySem.W.findIn K (.ref (c 19)) "__init__" = some (some (.builtin "ValueError.__init__"))
  m19 : PySem.W.excInitIn K (c 19) [.type "ValueError", .type "Exception", .type "BaseException", .type "object"] "ValueError.__new__" = true
  i20 : PySem.W.findIn K (.ref (c 20)) "__init__" = some (some (.builtin "LookupError.__init__"))
  m20 : PySem.W.excInitIn K (c 20) [.type "LookupError", .type "Exception", .type "BaseException", .type "object"] "LookupError.__new__" = true
  i21 : PySem.W.findIn K (.ref (c 21)) "__init__" = some (some (.builtin "ArithmeticError.__init__"))
  m21 : PySem.W.excInitIn K (c 21) [.type "ArithmeticError", .type "Exception", .type "BaseException", .type "object"] "ArithmeticError.__new__" = true
/-- what an __init__ of one field does: of two -/
def spIni (C : Addr) (g : Str) : Sp := fun vs H Q _ => ∃ (a : Addr) (v : V), vs = [.ref a, v] ∧ H a = some (exo a C none) ∧
  ∀ d, H d = none → d ≠ a → Q .non (upd (upd H d (exd d [(g, v)])) a (exo a C (some d)))
def spIni2 (C : Addr) (g g2 : Str) : Sp := fun vs H Q _ => ∃ (a : Addr) (v v2 : V), vs = [.ref a, v, v2] ∧ H a = some (exo a C none) ∧
  ∀ d, H d = none → d ≠ a → Q .non (upd (upd (upd H d (exd d [(g, v)])) a (exo a C (some d))) d (exd d [(g2, v2), (g, v)]))
theorem taker_of {K : PySem.W.Frag} {C : Addr} {g : Str} (h : PySem.W.findIn K (.ref C) g = some none) : PySem.W.takerIn K C g = some none := by
  unfold PySem.W.takerIn
  rw [h]
  rfl
section
variable {P : Program} {w : World} {K : PySem.W.Frag} {mg : Str → Option Value} {base : Heap} {C : Addr}
theorem scIni0 : FnScope ["self", "given"] ["self", "given"] (defScope sIni0) := ⟨rfl, rfl, rfl, by decide +kernel, rfl, by decide +kernel, by decide +kernel⟩
theorem ok_ini0 {f : Addr} {fd : FuncData} (F : Fun K "__init__" "InvalidText.__init__" sIni0 f fd) (T : XC K C) (no : PySem.W.findIn K (.ref C) "given" = some none) :
    FnOk P w K mg base CX0 1 f fd ["self", "given"] (spIni C "given") := by
  refine F.ok scIni0 (fun vs H Q E h => ?_) (fun cdv A outer s H vs Q E hr h => ?_)
  · obtain ⟨a, v, rfl, _⟩ := h
    rfl
  · obtain ⟨a, v, rfl, ha, k⟩ := h
    exact ⟨_, pss_one (ps_put (pv 0) (pv 1)), v, rfl, .ref a, rfl, a, C, rfl, T, taker_of no, .inl ⟨ha, fun d nd ne => k d nd ne⟩⟩
theorem bn0 {f : Addr} {fd : FuncData} (F : Fun K "__init__" "InvalidText.__init__" sIni0 f fd) (s : Shared) (us : List Value)
    (hl : us.length = (["self", "given"] : List Str).length) : BindsTo s fd ⟨us, []⟩ ((["self", "given"] : List Str).zip us) := by
  obtain ⟨_, _, _, _, _, _, _, _, _, rfl, _, _⟩ := F.ex
  match us, hl with
  | [_, _], _ => exact .of_eq rfl
theorem bk0 {f : Addr} {fd : FuncData} (F : Fun K "__init__" "InvalidText.__init__" sIni0 f fd) (s : Shared) (a : Addr) (us : List Value)
    (hl : us.length = (["given"] : List Str).length) : BindsTo s fd ⟨[.ref a], (["given"] : List Str).zip us⟩ ((["self", "given"] : List Str).zip (.ref a :: id us)) := by
  obtain ⟨_, _, _, _, _, _, _, _, _, rfl, _, _⟩ := F.ex
  match us, hl with
  | [_], _ => exact .of_eq rfl
theorem scIni1 : FnScope ["self", "given"] ["self", "given"] (defScope sIni1) := ⟨rfl, rfl, rfl, by decide +kernel, rfl, by decide +kernel, by decide +kernel⟩
theorem ok_ini1 {f : Addr} {fd : FuncData} (F : Fun K "__init__" "InvalidNumber.__init__" sIni1 f fd) (T : XC K C) (no : PySem.W.findIn K (.ref C) "given" = some none) :
    FnOk P w K mg base CX0 1 f fd ["self", "given"] (spIni C "given") := by
  refine F.ok scIni1 (fun vs H Q E h => ?_) (fun cdv A outer s H vs Q E hr h => ?_)
  · obtain ⟨a, v, rfl, _⟩ := h
    rfl
  · obtain ⟨a, v, rfl, ha, k⟩ := h
    exact ⟨_, pss_one (ps_put (pv 0) (pv 1)), v, rfl, .ref a, rfl, a, C, rfl, T, taker_of no, .inl ⟨ha, fun d nd ne => k d nd ne⟩⟩
theorem bn1 {f : Addr} {fd : FuncData} (F : Fun K "__init__" "InvalidNumber.__init__" sIni1 f fd) (s : Shared) (us : List Value)
    (hl : us.length = (["self", "given"] : List Str).length) : BindsTo s fd ⟨us, []⟩ ((["self", "given"] : List Str).zip us) := by
  obtain ⟨_, _, _, _, _, _, _, _, _, rfl, _, _⟩ := F.ex
  match us, hl with
  | [_, _], _ => exact .of_eq rfl
theorem bk1 {f : Addr} {fd : FuncData} (F : Fun K "__init__" "InvalidNumber.__init__" sIni1 f fd) (s : Shared) (a : Addr) (us : List Value)
    (hl : us.length = (["given"] : List Str).length) : BindsTo s fd ⟨[.ref a], (["given"] : List Str).zip us⟩ ((["self", "given"] : List Str).zip (.ref a :: id us)) := by
  obtain ⟨_, _, _, _, _, _, _, _, _, rfl, _, _⟩ := F.ex
  match us, hl with
  | [_], _ => exact .of_eq rfl
theorem scIni2 : FnScope ["self", "given"] ["self", "given"] (defScope sIni2) := ⟨rfl, rfl, rfl, by decide +kernel, rfl, by decide +kernel, by decide +kernel⟩
theorem ok_ini2 {f : Addr} {fd : FuncData} (F : Fun K "__init__" "InvalidPlate.__init__" sIni2 f fd) (T : XC K C) (no : PySem.W.findIn K (.ref C) "given" = some none) :
    FnOk P w K mg base CX0 1 f fd ["self", "given"] (spIni C "given") := by
  refine F.ok scIni2 (fun vs H Q E h => ?_) (fun cdv A outer s H vs Q E hr h => ?_)
  · obtain ⟨a, v, rfl, _⟩ := h
    rfl
  · obtain ⟨a, v, rfl, ha, k⟩ := h
    exact ⟨_, pss_one (ps_put (pv 0) (pv 1)), v, rfl, .ref a, rfl, a, C, rfl, T, taker_of no, .inl ⟨ha, fun d nd ne => k d nd ne⟩⟩
theorem bn2 {f : Addr} {fd : FuncData} (F : Fun K "__init__" "InvalidPlate.__init__" sIni2 f fd) (s : Shared) (us : List Value)
    (hl : us.length = (["self", "given"] : List Str).length) : BindsTo s fd ⟨us, []⟩ ((["self", "given"] : List Str).zip us) := by
  obtain ⟨_, _, _, _, _, _, _, _, _, rfl, _, _⟩ := F.ex
  match us, hl with
  | [_, _], _ => exact .of_eq rfl
theorem bk2 {f : Addr} {fd : FuncData} (F : Fun K "__init__" "InvalidPlate.__init__" sIni2 f fd) (s : Shared) (a : Addr) (us : List Value)
    (hl : us.length = (["given"] : List Str).length) : BindsTo s fd ⟨[.ref a], (["given"] : List Str).zip us⟩ ((["self", "given"] : List Str).zip (.ref a :: id us)) := by
  obtain ⟨_, _, _, _, _, _, _, _, _, rfl, _, _⟩ := F.ex
  match us, hl with
  | [_], _ => exact .of_eq rfl
theorem scIni3 : FnScope ["self", "given"] ["self", "given"] (defScope sIni3) := ⟨rfl, rfl, rfl, by decide +kernel, rfl, by decide +kernel, by decide +kernel⟩
theorem ok_ini3 {f : Addr} {fd : FuncData} (F : Fun K "__init__" "InvalidName.__init__" sIni3 f fd) (T : XC K C) (no : PySem.W.findIn K (.ref C) "given" = some none) :
    FnOk P w K mg base CX0 1 f fd ["self", "given"] (spIni C "given") := by
  refine F.ok scIni3 (fun vs H Q E h => ?_) (fun cdv A outer s H vs Q E hr h => ?_)
  · obtain ⟨a, v, rfl, _⟩ := h
    rfl
  · obtain ⟨a, v, rfl, ha, k⟩ := h
    exact ⟨_, pss_one (ps_put (pv 0) (pv 1)), v, rfl, .ref a, rfl, a, C, rfl, T, taker_of no, .inl ⟨ha, fun d nd ne => k d nd ne⟩⟩
theorem bn3 {f : Addr} {fd : FuncData} (F : Fun K "__init__" "InvalidName.__init__" sIni3 f fd) (s : Shared) (us : List Value)
    (hl : us.length = (["self", "given"] : List Str).length) : BindsTo s fd ⟨us, []⟩ ((["self", "given"] : List Str).zip us) := by
  obtain ⟨_, _, _, _, _, _, _, _, _, rfl, _, _⟩ := F.ex
  match us, hl with
  | [_, _], _ => exact .of_eq rfl
theorem bk3 {f : Addr} {fd : FuncData} (F : Fun K "__init__" "InvalidName.__init__" sIni3 f fd) (s : Shared) (a : Addr) (us : List Value)
    (hl : us.length = (["given"] : List Str).length) : BindsTo s fd ⟨[.ref a], (["given"] : List Str).zip us⟩ ((["self", "given"] : List Str).zip (.ref a :: id us)) := by
  obtain ⟨_, _, _, _, _, _, _, _, _, rfl, _, _⟩ := F.ex
  match us, hl with
  | [_], _ => exact .of_eq rfl
theorem scIni4 : FnScope ["self", "given"] ["self", "given"] (defScope sIni4) := ⟨rfl, rfl, rfl, by decide +kernel, rfl, by decide +kernel, by decide +kernel⟩
theorem ok_ini4 {f : Addr} {fd : FuncData} (F : Fun K "__init__" "InvalidWish.__init__" sIni4 f fd) (T : XC K C) (no : PySem.W.findIn K (.ref C) "given" = some none) :
    FnOk P w K mg base CX0 1 f fd ["self", "given"] (spIni C "given") := by
  refine F.ok scIni4 (fun vs H Q E h => ?_) (fun cdv A outer s H vs Q E hr h => ?_)
  · obtain ⟨a, v, rfl, _⟩ := h
    rfl
  · obtain ⟨a, v, rfl, ha, k⟩ := h
    exact ⟨_, pss_one (ps_put (pv 0) (pv 1)), v, rfl, .ref a, rfl, a, C, rfl, T, taker_of no, .inl ⟨ha, fun d nd ne => k d nd ne⟩⟩
theorem bn4 {f : Addr} {fd : FuncData} (F : Fun K "__init__" "InvalidWish.__init__" sIni4 f fd) (s : Shared) (us : List Value)
    (hl : us.length = (["self", "given"] : List Str).length) : BindsTo s fd ⟨us, []⟩ ((["self", "given"] : List Str).zip us) := by
  obtain ⟨_, _, _, _, _, _, _, _, _, rfl, _, _⟩ := F.ex
  match us, hl with
  | [_, _], _ => exact .of_eq rfl
theorem bk4 {f : Addr} {fd : FuncData} (F : Fun K "__init__" "InvalidWish.__init__" sIni4 f fd) (s : Shared) (a : Addr) (us : List Value)
    (hl : us.length = (["given"] : List Str).length) : BindsTo s fd ⟨[.ref a], (["given"] : List Str).zip us⟩ ((["self", "given"] : List Str).zip (.ref a :: id us)) := by
  obtain ⟨_, _, _, _, _, _, _, _, _, rfl, _, _⟩ := F.ex
  match us, hl with
  | [_], _ => exact .of_eq rfl
theorem scIni5 : FnScope ["self", "given"] ["self", "given"] (defScope sIni5) := ⟨rfl, rfl, rfl, by decide +kernel, rfl, by decide +kernel, by decide +kernel⟩
theorem ok_ini5 {f : Addr} {fd : FuncData} (F : Fun K "__init__" "NotARule.__init__" sIni5 f fd) (T : XC K C) (no : PySem.W.findIn K (.ref C) "given" = some none) :
    FnOk P w K mg base CX0 1 f fd ["self", "given"] (spIni C "given") := by
  refine F.ok scIni5 (fun vs H Q E h => ?_) (fun cdv A outer s H vs Q E hr h => ?_)
  · obtain ⟨a, v, rfl, _⟩ := h
    rfl
  · obtain ⟨a, v, rfl, ha, k⟩ := h
    exact ⟨_, pss_one (ps_put (pv 0) (pv 1)), v, rfl, .ref a, rfl, a, C, rfl, T, taker_of no, .inl ⟨ha, fun d nd ne => k d nd ne⟩⟩
theorem bn5 {f : Addr} {fd : FuncData} (F : Fun K "__init__" "NotARule.__init__" sIni5 f fd) (s : Shared) (us : List Value)
    (hl : us.length = (["self", "given"] : List Str).length) : BindsTo s fd ⟨us, []⟩ ((["self", "given"] : List Str).zip us) := by
  obtain ⟨_, _, _, _, _, _, _, _, _, rfl, _, _⟩ := F.ex
  match us, hl with
  | [_, _], _ => exact .of_eq rfl
theorem bk5 {f : Addr} {fd : FuncData} (F : Fun K "__init__" "NotARule.__init__" sIni5 f fd) (s : Shared) (a : Addr) (us : List Value)
    (hl : us.length = (["given"] : List Str).length) : BindsTo s fd ⟨[.ref a], (["given"] : List Str).zip us⟩ ((["self", "given"] : List Str).zip (.ref a :: id us)) := by
  obtain ⟨_, _, _, _, _, _, _, _, _, rfl, _, _⟩ := F.ex
  match us, hl with
  | [_], _ => exact .of_eq rfl
theorem scIni6 : FnScope ["self", "index"] ["self", "index"] (defScope sIni6) := ⟨rfl, rfl, rfl, by decide +kernel, rfl, by decide +kernel, by decide +kernel⟩
theorem ok_ini6 {f : Addr} {fd : FuncData} (F : Fun K "__init__" "InvalidRows.__init__" sIni6 f fd) (T : XC K C) (no : PySem.W.findIn K (.ref C) "index" = some none) :
    FnOk P w K mg base CX0 1 f fd ["self", "index"] (spIni C "index") := by
  refine F.ok scIni6 (fun vs H Q E h => ?_) (fun cdv A outer s H vs Q E hr h => ?_)
  · obtain ⟨a, v, rfl, _⟩ := h
    rfl
  · obtain ⟨a, v, rfl, ha, k⟩ := h
    exact ⟨_, pss_one (ps_put (pv 0) (pv 1)), v, rfl, .ref a, rfl, a, C, rfl, T, taker_of no, .inl ⟨ha, fun d nd ne => k d nd ne⟩⟩
theorem bn6 {f : Addr} {fd : FuncData} (F : Fun K "__init__" "InvalidRows.__init__" sIni6 f fd) (s : Shared) (us : List Value)
    (hl : us.length = (["self", "index"] : List Str).length) : BindsTo s fd ⟨us, []⟩ ((["self", "index"] : List Str).zip us) := by
  obtain ⟨_, _, _, _, _, _, _, _, _, rfl, _, _⟩ := F.ex
  match us, hl with
  | [_, _], _ => exact .of_eq rfl
theorem bk6 {f : Addr} {fd : FuncData} (F : Fun K "__init__" "InvalidRows.__init__" sIni6 f fd) (s : Shared) (a : Addr) (us : List Value)
    (hl : us.length = (["index"] : List Str).length) : BindsTo s fd ⟨[.ref a], (["index"] : List Str).zip us⟩ ((["self", "index"] : List Str).zip (.ref a :: id us)) := by
  obtain ⟨_, _, _, _, _, _, _, _, _, rfl, _, _⟩ := F.ex
  match us, hl with
  | [_], _ => exact .of_eq rfl
theorem scIni7 : FnScope ["self", "index"] ["self", "index"] (defScope sIni7) := ⟨rfl, rfl, rfl, by decide +kernel, rfl, by decide +kernel, by decide +kernel⟩
theorem ok_ini7 {f : Addr} {fd : FuncData} (F : Fun K "__init__" "InvalidChoices.__init__" sIni7 f fd) (T : XC K C) (no : PySem.W.findIn K (.ref C) "index" = some none) :
    FnOk P w K mg base CX0 1 f fd ["self", "index"] (spIni C "index") := by
  refine F.ok scIni7 (fun vs H Q E h => ?_) (fun cdv A outer s H vs Q E hr h => ?_)
  · obtain ⟨a, v, rfl, _⟩ := h
    rfl
  · obtain ⟨a, v, rfl, ha, k⟩ := h
    exact ⟨_, pss_one (ps_put (pv 0) (pv 1)), v, rfl, .ref a, rfl, a, C, rfl, T, taker_of no, .inl ⟨ha, fun d nd ne => k d nd ne⟩⟩
theorem bn7 {f : Addr} {fd : FuncData} (F : Fun K "__init__" "InvalidChoices.__init__" sIni7 f fd) (s : Shared) (us : List Value)
    (hl : us.length = (["self", "index"] : List Str).length) : BindsTo s fd ⟨us, []⟩ ((["self", "index"] : List Str).zip us) := by
  obtain ⟨_, _, _, _, _, _, _, _, _, rfl, _, _⟩ := F.ex
  match us, hl with
  | [_, _], _ => exact .of_eq rfl
theorem bk7 {f : Addr} {fd : FuncData} (F : Fun K "__init__" "InvalidChoices.__init__" sIni7 f fd) (s : Shared) (a : Addr) (us : List Value)
    (hl : us.length = (["index"] : List Str).length) : BindsTo s fd ⟨[.ref a], (["index"] : List Str).zip us⟩ ((["self", "index"] : List Str).zip (.ref a :: id us)) := by
  obtain ⟨_, _, _, _, _, _, _, _, _, rfl, _, _⟩ := F.ex
  match us, hl with
  | [_], _ => exact .of_eq rfl
theorem scIni8 : FnScope ["self", "index"] ["self", "index"] (defScope sIni8) := ⟨rfl, rfl, rfl, by decide +kernel, rfl, by decide +kernel, by decide +kernel⟩
theorem ok_ini8 {f : Addr} {fd : FuncData} (F : Fun K "__init__" "InvalidTakes.__init__" sIni8 f fd) (T : XC K C) (no : PySem.W.findIn K (.ref C) "index" = some none) :
    FnOk P w K mg base CX0 1 f fd ["self", "index"] (spIni C "index") := by
  refine F.ok scIni8 (fun vs H Q E h => ?_) (fun cdv A outer s H vs Q E hr h => ?_)
  · obtain ⟨a, v, rfl, _⟩ := h
    rfl
  · obtain ⟨a, v, rfl, ha, k⟩ := h
    exact ⟨_, pss_one (ps_put (pv 0) (pv 1)), v, rfl, .ref a, rfl, a, C, rfl, T, taker_of no, .inl ⟨ha, fun d nd ne => k d nd ne⟩⟩
theorem bn8 {f : Addr} {fd : FuncData} (F : Fun K "__init__" "InvalidTakes.__init__" sIni8 f fd) (s : Shared) (us : List Value)
    (hl : us.length = (["self", "index"] : List Str).length) : BindsTo s fd ⟨us, []⟩ ((["self", "index"] : List Str).zip us) := by
  obtain ⟨_, _, _, _, _, _, _, _, _, rfl, _, _⟩ := F.ex
  match us, hl with
  | [_, _], _ => exact .of_eq rfl
theorem bk8 {f : Addr} {fd : FuncData} (F : Fun K "__init__" "InvalidTakes.__init__" sIni8 f fd) (s : Shared) (a : Addr) (us : List Value)
    (hl : us.length = (["index"] : List Str).length) : BindsTo s fd ⟨[.ref a], (["index"] : List Str).zip us⟩ ((["self", "index"] : List Str).zip (.ref a :: id us)) := by
  obtain ⟨_, _, _, _, _, _, _, _, _, rfl, _, _⟩ := F.ex
  match us, hl with
  | [_], _ => exact .of_eq rfl
theorem scIni9 : FnScope ["self", "index"] ["self", "index"] (defScope sIni9) := ⟨rfl, rfl, rfl, by decide +kernel, rfl, by decide +kernel, by decide +kernel⟩
theorem ok_ini9 {f : Addr} {fd : FuncData} (F : Fun K "__init__" "InvalidSeen.__init__" sIni9 f fd) (T : XC K C) (no : PySem.W.findIn K (.ref C) "index" = some none) :
    FnOk P w K mg base CX0 1 f fd ["self", "index"] (spIni C "index") := by
  refine F.ok scIni9 (fun vs H Q E h => ?_) (fun cdv A outer s H vs Q E hr h => ?_)
  · obtain ⟨a, v, rfl, _⟩ := h
    rfl
  · obtain ⟨a, v, rfl, ha, k⟩ := h
    exact ⟨_, pss_one (ps_put (pv 0) (pv 1)), v, rfl, .ref a, rfl, a, C, rfl, T, taker_of no, .inl ⟨ha, fun d nd ne => k d nd ne⟩⟩
theorem bn9 {f : Addr} {fd : FuncData} (F : Fun K "__init__" "InvalidSeen.__init__" sIni9 f fd) (s : Shared) (us : List Value)
    (hl : us.length = (["self", "index"] : List Str).length) : BindsTo s fd ⟨us, []⟩ ((["self", "index"] : List Str).zip us) := by
  obtain ⟨_, _, _, _, _, _, _, _, _, rfl, _, _⟩ := F.ex
  match us, hl with
  | [_, _], _ => exact .of_eq rfl
theorem bk9 {f : Addr} {fd : FuncData} (F : Fun K "__init__" "InvalidSeen.__init__" sIni9 f fd) (s : Shared) (a : Addr) (us : List Value)
    (hl : us.length = (["index"] : List Str).length) : BindsTo s fd ⟨[.ref a], (["index"] : List Str).zip us⟩ ((["self", "index"] : List Str).zip (.ref a :: id us)) := by
  obtain ⟨_, _, _, _, _, _, _, _, _, rfl, _, _⟩ := F.ex
  match us, hl with
  | [_], _ => exact .of_eq rfl
theorem scIni10 : FnScope ["self", "index"] ["self", "index"] (defScope sIni10) := ⟨rfl, rfl, rfl, by decide +kernel, rfl, by decide +kernel, by decide +kernel⟩
theorem ok_ini10 {f : Addr} {fd : FuncData} (F : Fun K "__init__" "InvalidExchanges.__init__" sIni10 f fd) (T : XC K C) (no : PySem.W.findIn K (.ref C) "index" = some none) :
    FnOk P w K mg base CX0 1 f fd ["self", "index"] (spIni C "index") := by
  refine F.ok scIni10 (fun vs H Q E h => ?_) (fun cdv A outer s H vs Q E hr h => ?_)
  · obtain ⟨a, v, rfl, _⟩ := h
    rfl
  · obtain ⟨a, v, rfl, ha, k⟩ := h
    exact ⟨_, pss_one (ps_put (pv 0) (pv 1)), v, rfl, .ref a, rfl, a, C, rfl, T, taker_of no, .inl ⟨ha, fun d nd ne => k d nd ne⟩⟩
theorem bn10 {f : Addr} {fd : FuncData} (F : Fun K "__init__" "InvalidExchanges.__init__" sIni10 f fd) (s : Shared) (us : List Value)
    (hl : us.length = (["self", "index"] : List Str).length) : BindsTo s fd ⟨us, []⟩ ((["self", "index"] : List Str).zip us) := by
  obtain ⟨_, _, _, _, _, _, _, _, _, rfl, _, _⟩ := F.ex
  match us, hl with
  | [_, _], _ => exact .of_eq rfl
theorem bk10 {f : Addr} {fd : FuncData} (F : Fun K "__init__" "InvalidExchanges.__init__" sIni10 f fd) (s : Shared) (a : Addr) (us : List Value)
    (hl : us.length = (["index"] : List Str).length) : BindsTo s fd ⟨[.ref a], (["index"] : List Str).zip us⟩ ((["self", "index"] : List Str).zip (.ref a :: id us)) := by
  obtain ⟨_, _, _, _, _, _, _, _, _, rfl, _, _⟩ := F.ex
  match us, hl with
  | [_], _ => exact .of_eq rfl
theorem scIni11 : FnScope ["self", "index"] ["self", "index"] (defScope sIni11) := ⟨rfl, rfl, rfl, by decide +kernel, rfl, by decide +kernel, by decide +kernel⟩
theorem ok_ini11 {f : Addr} {fd : FuncData} (F : Fun K "__init__" "InvalidWishes.__init__" sIni11 f fd) (T : XC K C) (no : PySem.W.findIn K (.ref C) "index" = some none) :
    FnOk P w K mg base CX0 1 f fd ["self", "index"] (spIni C "index") := by
  refine F.ok scIni11 (fun vs H Q E h => ?_) (fun cdv A outer s H vs Q E hr h => ?_)
  · obtain ⟨a, v, rfl, _⟩ := h
    rfl
  · obtain ⟨a, v, rfl, ha, k⟩ := h
    exact ⟨_, pss_one (ps_put (pv 0) (pv 1)), v, rfl, .ref a, rfl, a, C, rfl, T, taker_of no, .inl ⟨ha, fun d nd ne => k d nd ne⟩⟩
theorem bn11 {f : Addr} {fd : FuncData} (F : Fun K "__init__" "InvalidWishes.__init__" sIni11 f fd) (s : Shared) (us : List Value)
    (hl : us.length = (["self", "index"] : List Str).length) : BindsTo s fd ⟨us, []⟩ ((["self", "index"] : List Str).zip us) := by
  obtain ⟨_, _, _, _, _, _, _, _, _, rfl, _, _⟩ := F.ex
  match us, hl with
  | [_, _], _ => exact .of_eq rfl
theorem bk11 {f : Addr} {fd : FuncData} (F : Fun K "__init__" "InvalidWishes.__init__" sIni11 f fd) (s : Shared) (a : Addr) (us : List Value)
    (hl : us.length = (["index"] : List Str).length) : BindsTo s fd ⟨[.ref a], (["index"] : List Str).zip us⟩ ((["self", "index"] : List Str).zip (.ref a :: id us)) := by
  obtain ⟨_, _, _, _, _, _, _, _, _, rfl, _, _⟩ := F.ex
  match us, hl with
  | [_], _ => exact .of_eq rfl
theorem scIni12 : FnScope ["self", "given"] ["self", "given"] (defScope sIni12) := ⟨rfl, rfl, rfl, by decide +kernel, rfl, by decide +kernel, by decide +kernel⟩
theorem ok_ini12 {f : Addr} {fd : FuncData} (F : Fun K "__init__" "UnknownName.__init__" sIni12 f fd) (T : XC K C) (no : PySem.W.findIn K (.ref C) "given" = some none) :
    FnOk P w K mg base CX0 1 f fd ["self", "given"] (spIni C "given") := by
  refine F.ok scIni12 (fun vs H Q E h => ?_) (fun cdv A outer s H vs Q E hr h => ?_)
  · obtain ⟨a, v, rfl, _⟩ := h
    rfl
  · obtain ⟨a, v, rfl, ha, k⟩ := h
    exact ⟨_, pss_one (ps_put (pv 0) (pv 1)), v, rfl, .ref a, rfl, a, C, rfl, T, taker_of no, .inl ⟨ha, fun d nd ne => k d nd ne⟩⟩
theorem bn12 {f : Addr} {fd : FuncData} (F : Fun K "__init__" "UnknownName.__init__" sIni12 f fd) (s : Shared) (us : List Value)
    (hl : us.length = (["self", "given"] : List Str).length) : BindsTo s fd ⟨us, []⟩ ((["self", "given"] : List Str).zip us) := by
  obtain ⟨_, _, _, _, _, _, _, _, _, rfl, _, _⟩ := F.ex
  match us, hl with
  | [_, _], _ => exact .of_eq rfl
theorem bk12 {f : Addr} {fd : FuncData} (F : Fun K "__init__" "UnknownName.__init__" sIni12 f fd) (s : Shared) (a : Addr) (us : List Value)
    (hl : us.length = (["given"] : List Str).length) : BindsTo s fd ⟨[.ref a], (["given"] : List Str).zip us⟩ ((["self", "given"] : List Str).zip (.ref a :: id us)) := by
  obtain ⟨_, _, _, _, _, _, _, _, _, rfl, _, _⟩ := F.ex
  match us, hl with
  | [_], _ => exact .of_eq rfl
theorem scIni13 : FnScope ["self", "index"] ["self", "index"] (defScope sIni13) := ⟨rfl, rfl, rfl, by decide +kernel, rfl, by decide +kernel, by decide +kernel⟩
theorem ok_ini13 {f : Addr} {fd : FuncData} (F : Fun K "__init__" "InUse.__init__" sIni13 f fd) (T : XC K C) (no : PySem.W.findIn K (.ref C) "index" = some none) :
    FnOk P w K mg base CX0 1 f fd ["self", "index"] (spIni C "index") := by
  refine F.ok scIni13 (fun vs H Q E h => ?_) (fun cdv A outer s H vs Q E hr h => ?_)
  · obtain ⟨a, v, rfl, _⟩ := h
    rfl
  · obtain ⟨a, v, rfl, ha, k⟩ := h
    exact ⟨_, pss_one (ps_put (pv 0) (pv 1)), v, rfl, .ref a, rfl, a, C, rfl, T, taker_of no, .inl ⟨ha, fun d nd ne => k d nd ne⟩⟩
theorem bn13 {f : Addr} {fd : FuncData} (F : Fun K "__init__" "InUse.__init__" sIni13 f fd) (s : Shared) (us : List Value)
    (hl : us.length = (["self", "index"] : List Str).length) : BindsTo s fd ⟨us, []⟩ ((["self", "index"] : List Str).zip us) := by
  obtain ⟨_, _, _, _, _, _, _, _, _, rfl, _, _⟩ := F.ex
  match us, hl with
  | [_, _], _ => exact .of_eq rfl
theorem bk13 {f : Addr} {fd : FuncData} (F : Fun K "__init__" "InUse.__init__" sIni13 f fd) (s : Shared) (a : Addr) (us : List Value)
    (hl : us.length = (["index"] : List Str).length) : BindsTo s fd ⟨[.ref a], (["index"] : List Str).zip us⟩ ((["self", "index"] : List Str).zip (.ref a :: id us)) := by
  obtain ⟨_, _, _, _, _, _, _, _, _, rfl, _, _⟩ := F.ex
  match us, hl with
  | [_], _ => exact .of_eq rfl
theorem scIni14 : FnScope ["self", "given"] ["self", "given"] (defScope sIni14) := ⟨rfl, rfl, rfl, by decide +kernel, rfl, by decide +kernel, by decide +kernel⟩
theorem ok_ini14 {f : Addr} {fd : FuncData} (F : Fun K "__init__" "NotLet.__init__" sIni14 f fd) (T : XC K C) (no : PySem.W.findIn K (.ref C) "given" = some none) :
    FnOk P w K mg base CX0 1 f fd ["self", "given"] (spIni C "given") := by
  refine F.ok scIni14 (fun vs H Q E h => ?_) (fun cdv A outer s H vs Q E hr h => ?_)
  · obtain ⟨a, v, rfl, _⟩ := h
    rfl
  · obtain ⟨a, v, rfl, ha, k⟩ := h
    exact ⟨_, pss_one (ps_put (pv 0) (pv 1)), v, rfl, .ref a, rfl, a, C, rfl, T, taker_of no, .inl ⟨ha, fun d nd ne => k d nd ne⟩⟩
theorem bn14 {f : Addr} {fd : FuncData} (F : Fun K "__init__" "NotLet.__init__" sIni14 f fd) (s : Shared) (us : List Value)
    (hl : us.length = (["self", "given"] : List Str).length) : BindsTo s fd ⟨us, []⟩ ((["self", "given"] : List Str).zip us) := by
  obtain ⟨_, _, _, _, _, _, _, _, _, rfl, _, _⟩ := F.ex
  match us, hl with
  | [_, _], _ => exact .of_eq rfl
theorem bk14 {f : Addr} {fd : FuncData} (F : Fun K "__init__" "NotLet.__init__" sIni14 f fd) (s : Shared) (a : Addr) (us : List Value)
    (hl : us.length = (["given"] : List Str).length) : BindsTo s fd ⟨[.ref a], (["given"] : List Str).zip us⟩ ((["self", "given"] : List Str).zip (.ref a :: id us)) := by
  obtain ⟨_, _, _, _, _, _, _, _, _, rfl, _, _⟩ := F.ex
  match us, hl with
  | [_], _ => exact .of_eq rfl
theorem scIni15 : FnScope ["self", "given"] ["self", "given"] (defScope sIni15) := ⟨rfl, rfl, rfl, by decide +kernel, rfl, by decide +kernel, by decide +kernel⟩
theorem ok_ini15 {f : Addr} {fd : FuncData} (F : Fun K "__init__" "NotRound.__init__" sIni15 f fd) (T : XC K C) (no : PySem.W.findIn K (.ref C) "given" = some none) :
    FnOk P w K mg base CX0 1 f fd ["self", "given"] (spIni C "given") := by
  refine F.ok scIni15 (fun vs H Q E h => ?_) (fun cdv A outer s H vs Q E hr h => ?_)
  · obtain ⟨a, v, rfl, _⟩ := h
    rfl
  · obtain ⟨a, v, rfl, ha, k⟩ := h
    exact ⟨_, pss_one (ps_put (pv 0) (pv 1)), v, rfl, .ref a, rfl, a, C, rfl, T, taker_of no, .inl ⟨ha, fun d nd ne => k d nd ne⟩⟩
theorem bn15 {f : Addr} {fd : FuncData} (F : Fun K "__init__" "NotRound.__init__" sIni15 f fd) (s : Shared) (us : List Value)
    (hl : us.length = (["self", "given"] : List Str).length) : BindsTo s fd ⟨us, []⟩ ((["self", "given"] : List Str).zip us) := by
  obtain ⟨_, _, _, _, _, _, _, _, _, rfl, _, _⟩ := F.ex
  match us, hl with
  | [_, _], _ => exact .of_eq rfl
theorem bk15 {f : Addr} {fd : FuncData} (F : Fun K "__init__" "NotRound.__init__" sIni15 f fd) (s : Shared) (a : Addr) (us : List Value)
    (hl : us.length = (["given"] : List Str).length) : BindsTo s fd ⟨[.ref a], (["given"] : List Str).zip us⟩ ((["self", "given"] : List Str).zip (.ref a :: id us)) := by
  obtain ⟨_, _, _, _, _, _, _, _, _, rfl, _, _⟩ := F.ex
  match us, hl with
  | [_], _ => exact .of_eq rfl
theorem scIni16 : FnScope ["self", "shown"] ["self", "shown"] (defScope sIni16) := ⟨rfl, rfl, rfl, by decide +kernel, rfl, by decide +kernel, by decide +kernel⟩
theorem ok_ini16 {f : Addr} {fd : FuncData} (F : Fun K "__init__" "RunsOut.__init__" sIni16 f fd) (T : XC K C) (no : PySem.W.findIn K (.ref C) "shown" = some none) :
    FnOk P w K mg base CX0 1 f fd ["self", "shown"] (spIni C "shown") := by
  refine F.ok scIni16 (fun vs H Q E h => ?_) (fun cdv A outer s H vs Q E hr h => ?_)
  · obtain ⟨a, v, rfl, _⟩ := h
    rfl
  · obtain ⟨a, v, rfl, ha, k⟩ := h
    exact ⟨_, pss_one (ps_put (pv 0) (pv 1)), v, rfl, .ref a, rfl, a, C, rfl, T, taker_of no, .inl ⟨ha, fun d nd ne => k d nd ne⟩⟩
theorem bn16 {f : Addr} {fd : FuncData} (F : Fun K "__init__" "RunsOut.__init__" sIni16 f fd) (s : Shared) (us : List Value)
    (hl : us.length = (["self", "shown"] : List Str).length) : BindsTo s fd ⟨us, []⟩ ((["self", "shown"] : List Str).zip us) := by
  obtain ⟨_, _, _, _, _, _, _, _, _, rfl, _, _⟩ := F.ex
  match us, hl with
  | [_, _], _ => exact .of_eq rfl
theorem bk16 {f : Addr} {fd : FuncData} (F : Fun K "__init__" "RunsOut.__init__" sIni16 f fd) (s : Shared) (a : Addr) (us : List Value)
    (hl : us.length = (["shown"] : List Str).length) : BindsTo s fd ⟨[.ref a], (["shown"] : List Str).zip us⟩ ((["self", "shown"] : List Str).zip (.ref a :: id us)) := by
  obtain ⟨_, _, _, _, _, _, _, _, _, rfl, _, _⟩ := F.ex
  match us, hl with
  | [_], _ => exact .of_eq rfl
theorem scIni17 : FnScope ["self", "index", "shown"] ["self", "index", "shown"] (defScope sIni17) := ⟨rfl, rfl, rfl, by decide +kernel, rfl, by decide +kernel, by decide +kernel⟩
theorem ok_ini17 {f : Addr} {fd : FuncData} (F : Fun K "__init__" "Broken.__init__" sIni17 f fd) (T : XC K C) (no : PySem.W.findIn K (.ref C) "index" = some none)
    (no2 : PySem.W.findIn K (.ref C) "shown" = some none) : FnOk P w K mg base CX0 1 f fd ["self", "index", "shown"] (spIni2 C "index" "shown") := by
  refine F.ok scIni17 (fun vs H Q E h => ?_) (fun cdv A outer s H vs Q E hr h => ?_)
  · obtain ⟨a, v, v2, rfl, _⟩ := h
    rfl
  · obtain ⟨a, v, v2, rfl, ha, k⟩ := h
    refine ⟨_, pss_cons (ps_put (pv 0) (pv 1)) (pss_one (ps_put (pv 0) (pv 2))), v, rfl, .ref a, rfl, a, C, rfl, T, taker_of no, .inl ⟨ha, fun d nd ne => ?_⟩⟩
    exact ⟨v2, rfl, .ref a, rfl, a, C, rfl, T, taker_of no2, .inr ⟨d, _, upd_same, (upd_ne ne).trans upd_same, by show 1 ≤ 900; decide, k d nd ne⟩⟩
theorem bn17 {f : Addr} {fd : FuncData} (F : Fun K "__init__" "Broken.__init__" sIni17 f fd) (s : Shared) (us : List Value)
    (hl : us.length = (["self", "index", "shown"] : List Str).length) : BindsTo s fd ⟨us, []⟩ ((["self", "index", "shown"] : List Str).zip us) := by
  obtain ⟨_, _, _, _, _, _, _, _, _, rfl, _, _⟩ := F.ex
  match us, hl with
  | [_, _, _], _ => exact .of_eq rfl
theorem bk17 {f : Addr} {fd : FuncData} (F : Fun K "__init__" "Broken.__init__" sIni17 f fd) (s : Shared) (a : Addr) (us : List Value)
    (hl : us.length = (["shown", "index"] : List Str).length) : BindsTo s fd ⟨[.ref a], (["shown", "index"] : List Str).zip us⟩ ((["self", "index", "shown"] : List Str).zip (.ref a :: us.reverse)) := by
  obtain ⟨_, _, _, _, _, _, _, _, _, rfl, _, _⟩ := F.ex
  match us, hl with
  | [_, _], _ => exact .of_eq rfl
end
abbrev sError : Stmt := top 34
theorem scError : FnScope ["_law_e", "_law_fits_here", "_law_words", "_law_bases", "_law_plain_ones", "_law_at"] ["_law_e"] (defScope sError) :=
  ⟨rfl, rfl, rfl, by decide +kernel, rfl, by decide +kernel, by decide +kernel⟩
/-- the word of an error's class -/
def spError (K : PySem.W.Frag) (c : Nat → Addr) : Sp := fun vs H Q _ => ∃ (a : Addr) (i : Nat) (fs : List (Str × V)), vs = [.ref a] ∧ i < 19 ∧ ExAt H a (c i) fs ∧
  ∀ H', Ex H H' → Q (.str (errN.getD i "")) H'
def fitsW (i : Nat) : List Bool := (List.range 19).map (kitW i)
theorem fits_one : ∀ i, i < 19 → countIn (.bool true) ((fitsW i).map PyData.bool) = 1 := by decide +kernel
theorem fits_at : ∀ i, i < 19 → ((fitsW i).map V.bl)[i]? = some (.bl true) := by decide +kernel
theorem fits_no : ∀ i, i < 19 → ∀ m, m < i → ((fitsW i).map V.bl)[m]? = some (.bl false) := by decide +kernel
theorem fits_flat : ∀ i, i < 19 → ((fitsW i).map V.bl).all flatV = true := by decide +kernel
def basesW (i : Nat) : List Bool := [kitW i 19, kitW i 20, kitW i 21]
theorem bases_plain : ∀ i, i < 19 → PyData.eqv (.list ((basesW i).map PyData.bool)) (.list ([kitW i 22, kitW i 23, kitW i 24].map PyData.bool)) = true := by decide +kernel
theorem bases_shape : ∀ i, i < 19 → SeqAt.shaped (.list ((basesW i).map PyData.bool)) = true ∧ SeqAt.shaped (.list ([kitW i 22, kitW i 23, kitW i 24].map PyData.bool)) = true := by decide +kernel
def atW (i : Int) : List Bool := [decide (i < 12), decide (11 < i) && decide (i < 14), decide (13 < i)]
theorem bases_at : ∀ i, i < 19 → PyData.eqv (.list ((basesW i).map PyData.bool)) (.list ((atW (i : Nat)).map PyData.bool)) = true ∧ SeqAt.shaped (.list ((atW (i : Nat)).map PyData.bool)) = true := by decide +kernel
theorem err_get : ∀ i, i < 19 → (errN.map V.str)[i]? = some (.str (errN.getD i "")) := by decide +kernel
section
variable {P : Program} {w : World} {K : PySem.W.Frag} {mg : Str → Option Value} {base : Heap} {c f : Nat → Addr} {fd : Nat → FuncData}
theorem ok_error {g : Addr} {gd : FuncData} {j : Nat} (F : Fun K "_law_error" "_law_error" sError g gd) (B : Blt mg) (E : Errs K mg c f fd) :
    FnOk P w K mg base CX0 (j + 1) g gd ["_law_e"] (spError K c) := by
  refine F.ok scError (fun vs H Q E h => ?_) (fun cdv A outer s H vs Q E' hr h => ?_)
  · obtain ⟨a, i, fs, rfl, _⟩ := h
    rfl
  · obtain ⟨a, i, fs, rfl, hi, x, k⟩ := h
    have hu : A.units + 3 + 64 < cLine := hr.units
    have hi2 : i < 22 := by omega
    have T := E.xc i hi2
    refine ⟨_, (pss_cons (ps_set (i := 1) scError.nd rfl (.inl rfl) (pe_lst (pa_cons (pe_callB (call_isX E.all) (by rfl) B.isi bIsi (pa_cons (pv 0) (pa_cons (pe_glob (v := .ref (c 0)) (by rfl) E.g0 rfl) pa_nil))) (pa_cons (pe_callB (call_isX E.all) (by rfl) B.isi bIsi (pa_cons (pv 0) (pa_cons (pe_glob (v := .ref (c 1)) (by rfl) E.g1 rfl) pa_nil))) (pa_cons (pe_callB (call_isX E.all) (by rfl) B.isi bIsi (pa_cons (pv 0) (pa_cons (pe_glob (v := .ref (c 2)) (by rfl) E.g2 rfl) pa_nil))) pa_nil)))))
      (pss_cons (ps_set (i := 1) scError.nd rfl (.inl rfl) (pe_op op_cat (pv 1) (pe_lst (pa_cons (pe_callB (call_isX E.all) (by rfl) B.isi bIsi (pa_cons (pv 0) (pa_cons (pe_glob (v := .ref (c 3)) (by rfl) E.g3 rfl) pa_nil))) (pa_cons (pe_callB (call_isX E.all) (by rfl) B.isi bIsi (pa_cons (pv 0) (pa_cons (pe_glob (v := .ref (c 4)) (by rfl) E.g4 rfl) pa_nil))) (pa_cons (pe_callB (call_isX E.all) (by rfl) B.isi bIsi (pa_cons (pv 0) (pa_cons (pe_glob (v := .ref (c 5)) (by rfl) E.g5 rfl) pa_nil))) pa_nil))))))
      (pss_cons (ps_set (i := 1) scError.nd rfl (.inl rfl) (pe_op op_cat (pv 1) (pe_lst (pa_cons (pe_callB (call_isX E.all) (by rfl) B.isi bIsi (pa_cons (pv 0) (pa_cons (pe_glob (v := .ref (c 6)) (by rfl) E.g6 rfl) pa_nil))) (pa_cons (pe_callB (call_isX E.all) (by rfl) B.isi bIsi (pa_cons (pv 0) (pa_cons (pe_glob (v := .ref (c 7)) (by rfl) E.g7 rfl) pa_nil))) (pa_cons (pe_callB (call_isX E.all) (by rfl) B.isi bIsi (pa_cons (pv 0) (pa_cons (pe_glob (v := .ref (c 8)) (by rfl) E.g8 rfl) pa_nil))) pa_nil))))))
      (pss_cons (ps_set (i := 1) scError.nd rfl (.inl rfl) (pe_op op_cat (pv 1) (pe_lst (pa_cons (pe_callB (call_isX E.all) (by rfl) B.isi bIsi (pa_cons (pv 0) (pa_cons (pe_glob (v := .ref (c 9)) (by rfl) E.g9 rfl) pa_nil))) (pa_cons (pe_callB (call_isX E.all) (by rfl) B.isi bIsi (pa_cons (pv 0) (pa_cons (pe_glob (v := .ref (c 10)) (by rfl) E.g10 rfl) pa_nil))) pa_nil)))))
      (pss_cons (ps_set (i := 1) scError.nd rfl (.inl rfl) (pe_op op_cat (pv 1) (pe_lst (pa_cons (pe_callB (call_isX E.all) (by rfl) B.isi bIsi (pa_cons (pv 0) (pa_cons (pe_glob (v := .ref (c 11)) (by rfl) E.g11 rfl) pa_nil))) (pa_cons (pe_callB (call_isX E.all) (by rfl) B.isi bIsi (pa_cons (pv 0) (pa_cons (pe_glob (v := .ref (c 12)) (by rfl) E.g12 rfl) pa_nil))) (pa_cons (pe_callB (call_isX E.all) (by rfl) B.isi bIsi (pa_cons (pv 0) (pa_cons (pe_glob (v := .ref (c 13)) (by rfl) E.g13 rfl) pa_nil))) pa_nil))))))
      (pss_cons (ps_set (i := 1) scError.nd rfl (.inl rfl) (pe_op op_cat (pv 1) (pe_lst (pa_cons (pe_callB (call_isX E.all) (by rfl) B.isi bIsi (pa_cons (pv 0) (pa_cons (pe_glob (v := .ref (c 14)) (by rfl) E.g14 rfl) pa_nil))) (pa_cons (pe_callB (call_isX E.all) (by rfl) B.isi bIsi (pa_cons (pv 0) (pa_cons (pe_glob (v := .ref (c 15)) (by rfl) E.g15 rfl) pa_nil))) (pa_cons (pe_callB (call_isX E.all) (by rfl) B.isi bIsi (pa_cons (pv 0) (pa_cons (pe_glob (v := .ref (c 16)) (by rfl) E.g16 rfl) pa_nil))) pa_nil))))))
      (pss_cons (ps_set (i := 1) scError.nd rfl (.inl rfl) (pe_op op_cat (pv 1) (pe_lst (pa_cons (pe_callB (call_isX E.all) (by rfl) B.isi bIsi (pa_cons (pv 0) (pa_cons (pe_glob (v := .ref (c 17)) (by rfl) E.g17 rfl) pa_nil))) (pa_cons (pe_callB (call_isX E.all) (by rfl) B.isi bIsi (pa_cons (pv 0) (pa_cons (pe_glob (v := .ref (c 18)) (by rfl) E.g18 rfl) pa_nil))) pa_nil)))))
      (pss_cons (ps_set (i := 2) scError.nd rfl (.inl rfl) (pe_lst (pa_cons pe_str (pa_cons pe_str (pa_cons pe_str (pa_cons pe_str (pa_cons pe_str (pa_cons pe_str pa_nil))))))))
      (pss_cons (ps_set (i := 2) scError.nd rfl (.inl rfl) (pe_op op_cat (pv 2) (pe_lst (pa_cons pe_str (pa_cons pe_str (pa_cons pe_str (pa_cons pe_str (pa_cons pe_str pa_nil))))))))
      (pss_cons (ps_set (i := 2) scError.nd rfl (.inl rfl) (pe_op op_cat (pv 2) (pe_lst (pa_cons pe_str (pa_cons pe_str (pa_cons pe_str (pa_cons pe_str (pa_cons pe_str (pa_cons pe_str (pa_cons pe_str pa_nil))))))))))
      (pss_cons (ps_set (i := 2) scError.nd rfl (.inl rfl) (pe_op op_cat (pv 2) (pe_lst (pa_cons pe_str pa_nil))))
      (pss_cons (ps_set (i := 3) scError.nd rfl (.inl rfl) (pe_lst (pa_cons (pe_callB (call_isX E.all) (by rfl) B.isi bIsi (pa_cons (pv 0) (pa_cons (pe_glob (v := .ref (c 19)) (by rfl) E.g19 rfl) pa_nil))) (pa_cons (pe_callB (call_isX E.all) (by rfl) B.isi bIsi (pa_cons (pv 0) (pa_cons (pe_glob (v := .ref (c 20)) (by rfl) E.g20 rfl) pa_nil))) (pa_cons (pe_callB (call_isX E.all) (by rfl) B.isi bIsi (pa_cons (pv 0) (pa_cons (pe_glob (v := .ref (c 21)) (by rfl) E.g21 rfl) pa_nil))) pa_nil)))))
      (pss_cons (ps_set (i := 4) scError.nd rfl (.inl rfl) (pe_lst (pa_cons (pe_callB (call_isX E.all) (by rfl) B.isi bIsi (pa_cons (pv 0) (pa_cons (pe_bltn (v := .ty "ValueError") (by rfl) E.py0 bPy0 rfl) pa_nil))) (pa_cons (pe_callB (call_isX E.all) (by rfl) B.isi bIsi (pa_cons (pv 0) (pa_cons (pe_bltn (v := .ty "LookupError") (by rfl) E.py1 bPy1 rfl) pa_nil))) (pa_cons (pe_callB (call_isX E.all) (by rfl) B.isi bIsi (pa_cons (pv 0) (pa_cons (pe_bltn (v := .ty "ArithmeticError") (by rfl) E.py2 bPy2 rfl) pa_nil))) pa_nil)))))
      (pss_cons (ps_if (pw_or (pt_cmpR op_ne (pe_bm PySem.F.plainAttrs_list PySem.F.slot_list_count PySem.F.type_list_count mt_countB (pv 1) (pa_cons pe_bl pa_nil)) pe_int (nomark _)) (pw_or1 (pt_cmpR (op_neD hu) (pv 3) (pv 4) (nomark _)))).pt (pss_one (ps_ret pe_str)) pss_nil)
      (pss_cons (ps_set (i := 5) scError.nd rfl (.inl rfl) (pe_bm PySem.F.plainAttrs_list PySem.F.slot_list_index PySem.F.type_list_index mt_index (pv 1) (pa_cons pe_bl pa_nil)))
      (pss_one (ps_ret (pe_ifExp (pt_cmpR (op_eqD hu) (pv 3) (pe_lst (pa_cons (pe_cmpR op_lt (pv 5) pe_int (nomark _)) (pa_cons (pe_chain op_lt op_lt pe_int (pv 5) pe_int) (pa_cons (pe_cmpR op_gt (pv 5) pe_int (nomark _)) pa_nil)))) (nomark _)) (pe_ix ix_list (pv 2) (pv 5) (fun _ _ => rfl)) pe_str)))))))))))))))))), ?_⟩
    have one : ∀ {σ : L2.St} {H1 : Hp} (j : Nat), σ[0]? = some (some (.ref a)) → Ex H H1 → j < 22 →
        Ev (tCB (rIsX K) (tCons (tVar 0) (tCons (tC (.ref (c j))) tNil))) σ H1 (.bl (kitW i j)) := fun j h0 e hj =>
      ev_isX (ev_var h0) ev_c (.own _) T (x.ext e) (E.kt i j hi2 hj)
    refine q_asgL (el_lst (ea_cons (one 0 rfl (Ex.refl H) (by decide)) (ea_cons (one 1 rfl (Ex.refl H) (by decide)) (ea_cons (one 2 rfl (Ex.refl H) (by decide)) ea_nil))) (Nat.le_of_ble_eq_true rfl)) fun p0 H0 n0 e0 h0 => ?_
    have x0 : Ex H H0 := e0
    refine q_asgL (el_cat (ev_var rfl) h0 (el_lst (ea_cons (one 3 rfl x0 (by decide)) (ea_cons (one 4 rfl x0 (by decide)) (ea_cons (one 5 rfl x0 (by decide)) ea_nil))) (Nat.le_of_ble_eq_true rfl)) (Nat.le_of_ble_eq_true rfl)) fun p1 H1 n1 e1 h1 => ?_
    have x1 : Ex H H1 := (x0.trans e1)
    refine q_asgL (el_cat (ev_var rfl) h1 (el_lst (ea_cons (one 6 rfl x1 (by decide)) (ea_cons (one 7 rfl x1 (by decide)) (ea_cons (one 8 rfl x1 (by decide)) ea_nil))) (Nat.le_of_ble_eq_true rfl)) (Nat.le_of_ble_eq_true rfl)) fun p2 H2 n2 e2 h2 => ?_
    have x2 : Ex H H2 := (x1.trans e2)
    refine q_asgL (el_cat (ev_var rfl) h2 (el_lst (ea_cons (one 9 rfl x2 (by decide)) (ea_cons (one 10 rfl x2 (by decide)) ea_nil)) (Nat.le_of_ble_eq_true rfl)) (Nat.le_of_ble_eq_true rfl)) fun p3 H3 n3 e3 h3 => ?_
    have x3 : Ex H H3 := (x2.trans e3)
    refine q_asgL (el_cat (ev_var rfl) h3 (el_lst (ea_cons (one 11 rfl x3 (by decide)) (ea_cons (one 12 rfl x3 (by decide)) (ea_cons (one 13 rfl x3 (by decide)) ea_nil))) (Nat.le_of_ble_eq_true rfl)) (Nat.le_of_ble_eq_true rfl)) fun p4 H4 n4 e4 h4 => ?_
    have x4 : Ex H H4 := (x3.trans e4)
    refine q_asgL (el_cat (ev_var rfl) h4 (el_lst (ea_cons (one 14 rfl x4 (by decide)) (ea_cons (one 15 rfl x4 (by decide)) (ea_cons (one 16 rfl x4 (by decide)) ea_nil))) (Nat.le_of_ble_eq_true rfl)) (Nat.le_of_ble_eq_true rfl)) fun p5 H5 n5 e5 h5 => ?_
    have x5 : Ex H H5 := (x4.trans e5)
    refine q_asgL (el_cat (ev_var rfl) h5 (el_lst (ea_cons (one 17 rfl x5 (by decide)) (ea_cons (one 18 rfl x5 (by decide)) ea_nil)) (Nat.le_of_ble_eq_true rfl)) (Nat.le_of_ble_eq_true rfl)) fun p6 H6 n6 e6 h6 => ?_
    have x6 : Ex H H6 := (x5.trans e6)
    refine q_asgL (el_lst (ea_cons ev_c (ea_cons ev_c (ea_cons ev_c (ea_cons ev_c (ea_cons ev_c (ea_cons ev_c ea_nil)))))) (Nat.le_of_ble_eq_true rfl)) fun pw0 Hw0 nw0 ew0 hw0 => ?_
    have xw0 : Ex H Hw0 := x6.trans ew0
    have hf0 : Hw0 p6 = some (.lst ((fitsW i).map V.bl)) := ew0 _ _ h6
    refine q_asgL (el_cat (ev_var rfl) hw0 (el_lst (ea_cons ev_c (ea_cons ev_c (ea_cons ev_c (ea_cons ev_c (ea_cons ev_c ea_nil))))) (Nat.le_of_ble_eq_true rfl)) (Nat.le_of_ble_eq_true rfl)) fun pw1 Hw1 nw1 ew1 hw1 => ?_
    have xw1 : Ex H Hw1 := xw0.trans ew1
    have hf1 : Hw1 p6 = some (.lst ((fitsW i).map V.bl)) := ew1 _ _ hf0
    refine q_asgL (el_cat (ev_var rfl) hw1 (el_lst (ea_cons ev_c (ea_cons ev_c (ea_cons ev_c (ea_cons ev_c (ea_cons ev_c (ea_cons ev_c (ea_cons ev_c ea_nil))))))) (Nat.le_of_ble_eq_true rfl)) (Nat.le_of_ble_eq_true rfl)) fun pw2 Hw2 nw2 ew2 hw2 => ?_
    have xw2 : Ex H Hw2 := xw1.trans ew2
    have hf2 : Hw2 p6 = some (.lst ((fitsW i).map V.bl)) := ew2 _ _ hf1
    refine q_asgL (el_cat (ev_var rfl) hw2 (el_lst (ea_cons ev_c ea_nil) (Nat.le_of_ble_eq_true rfl)) (Nat.le_of_ble_eq_true rfl)) fun pw3 Hw3 nw3 ew3 hw3 => ?_
    have xw3 : Ex H Hw3 := xw2.trans ew3
    have hf3 : Hw3 p6 = some (.lst ((fitsW i).map V.bl)) := ew3 _ _ hf2
    refine q_asgL (el_lst (ea_cons (one 19 rfl xw3 (by decide)) (ea_cons (one 20 rfl xw3 (by decide)) (ea_cons (one 21 rfl xw3 (by decide)) ea_nil))) (Nat.le_of_ble_eq_true rfl)) fun pb Hb nb eb hb => ?_
    have xb : Ex H Hb := xw3.trans eb
    refine q_asgL (el_lst (ea_cons (ev_isX (ev_var rfl) ev_c (.ty _) T (x.ext xb) (E.kp0 i hi2)) (ea_cons (ev_isX (ev_var rfl) ev_c (.ty _) T (x.ext xb) (E.kp1 i hi2)) (ea_cons (ev_isX (ev_var rfl) ev_c (.ty _) T (x.ext xb) (E.kp2 i hi2)) ea_nil))) (Nat.le_of_ble_eq_true rfl)) fun pp Hp2 np ep hp => ?_
    have xp : Ex H Hp2 := xb.trans ep
    have hF : Hp2 p6 = some (.lst ((fitsW i).map V.bl)) := ep _ _ (eb _ _ hf3)
    have hW : Hp2 pw3 = some (.lst (errN.map V.str)) := ep _ _ (eb _ _ hw3)
    have hB : Hp2 pb = some (.lst ((basesW i).map V.bl)) := ep _ _ hb
    have hP : Hp2 pp = some (.lst ([kitW i 22, kitW i 23, kitW i 24].map V.bl)) := hp
    have dB : Dp K Hp2 (.ref pb) (.list ((basesW i).map PyData.bool)) := Dp.bools hB
    have dP : Dp K Hp2 (.ref pp) (.list ([kitW i 22, kitW i 23, kitW i 24].map PyData.bool)) := Dp.bools hP
    refine q_when (b := false) (et_is (et_or (et_test (ev_op (ev_countB (ev_var rfl) hF ev_c) ev_c (rv_ne rfl)))
      (fun _ => et_test (ev_neD (ev_var rfl) (ev_var rfl) dB dP (bases_shape i hi).1 (bases_shape i hi).2))) ?_) (fun z => nomatch z) fun _ H2 e2 => ?_
    · rw [fits_one i hi, bases_plain i hi]
      rfl
    refine q_asg (ev_index (ev_var rfl) (e2 _ _ hF) ev_c rfl (fits_flat i hi) (fits_at i hi) rfl (fun m z' hm hz => ?_)) fun H3 e3 => ?_
    · rw [fits_no i hi m hm] at hz
      obtain rfl := Option.some.inj hz
      rfl
    have x3 : Ex Hp2 H3 := e2.trans e3
    refine s_ret (ev_if (b := true) (et_is (et_test (ev_eqDL (e := .list ((atW (i : Nat)).map PyData.bool)) (ev_var rfl) (el_lst
      (ea_cons (ev_op (ev_var rfl) ev_c rv_I0) (ea_cons (ev_chain ev_c (ev_var rfl) ev_c rv_I0 (fun _ => rv_I0)) (ea_cons (ev_op (ev_var rfl) ev_c rv_I0) ea_nil))) (Nat.le_of_ble_eq_true rfl))
      (Dp.mono x3 dB) (fun H1 p _ hp => Dp.bools hp) (bases_shape i hi).1 (bases_at i hi).2)) (bases_at i hi).1) (fun _ => ?_) (fun z => nomatch z)) fun H4 e4 => k H4 ((xp.trans x3).trans e4)
    exact ev_op (ev_var rfl) (ev_var rfl) (rv_ixL (sq_of (x3 _ _ hW)) (atI_nat (err_get i hi)))
end
end PW
namespace PW
open PySem PySem.Spec PyProof.Rows L2 Evl
def gW (i : Nat) : Str := if i < 6 then "given" else if i < 12 then "index" else if i = 13 then "index" else if i = 16 then "shown" else "given"
theorem Errs.no {K : PySem.W.Frag} {mg : Str → Option Value} {c f : Nat → Addr} {fd : Nat → FuncData} (E : Errs K mg c f fd) : ∀ i, i < 17 → PySem.W.findIn K (.ref (c i)) (gW i) = some none := by
  intro i hi
  match i, hi with
  | 0, _ => exact E.n0g
  | 1, _ => exact E.n1g
  | 2, _ => exact E.n2g
  | 3, _ => exact E.n3g
  | 4, _ => exact E.n4g
  | 5, _ => exact E.n5g
  | 6, _ => exact E.n6i
  | 7, _ => exact E.n7i
  | 8, _ => exact E.n8i
  | 9, _ => exact E.n9i
  | 10, _ => exact E.n10i
  | 11, _ => exact E.n11i
  | 12, _ => exact E.n12g
  | 13, _ => exact E.n13i
  | 14, _ => exact E.n14g
  | 15, _ => exact E.n15g
  | 16, _ => exact E.n16s
  | n + 17, h => omega
/-- e.f -/
theorem ev_att {K : PySem.W.Frag} {σ : L2.St} {H : Hp} {te : TE} {a C : Addr} {fs : List (Str × V)} {g : Str} {v : V} (h : Ev te σ H (.ref a)) (T : XC K C) (x : ExAt H a C fs)
    (no : PySem.W.findIn K (.ref C) g = some none) (l : fs.lookup g = some v) : Ev (tAtt K g te) σ H v := fun H1 e Q q =>
  h H1 e _ fun H2 e2 => ⟨a, C, fs, v, rfl, T, x.ext (e.trans e2), no, l, q H2 e2⟩
theorem ev_inNL {K : PySem.W.Frag} {σ : L2.St} {H : Hp} {ta tb : TE} {x : V} {xs : List V} (ha : Ev ta σ H x) (hb : EvL tb σ H xs) (fx : flatV x = true) (fs : xs.all flatV = true) :
    Ev (tOp (rIn K false) ta tb) σ H (.bl (inV x xs)) := ev_opL ha hb fun p H1 hp _ => rv_isL (sq_of hp) fx fs
abbrev sField : Stmt := top 35
theorem scField : FnScope ["_law_e", "_law_word_now"] ["_law_e", "_law_word_now"] (defScope sField) := ⟨rfl, rfl, rfl, by decide +kernel, rfl, by decide +kernel, by decide +kernel⟩
/-- the attribute of an error with one: with two -/
def spField (c : Nat → Addr) : Sp := fun vs H Q _ => ∃ a : Addr,
  (∃ (i : Nat) (v : V), vs = [.ref a, .str (errN.getD i "")] ∧ i < 17 ∧ ExAt H a (c i) [(gW i, v)] ∧ ∀ H', Ex H H' → Q v H') ∨
  (∃ v v2 : V, vs = [.ref a, .str "Broken"] ∧ ExAt H a (c 17) [("shown", v2), ("index", v)] ∧ ∀ p H', H p = none → Ex H H' → H' p = some (.lst [v, v2]) → Q (.ref p) H')
def in5 (x : Str) : Bool := inV (.str x) [.str "InvalidRows", .str "InvalidChoices", .str "InvalidTakes", .str "InvalidSeen", .str "InvalidExchanges"]
def in2 (x : Str) : Bool := inV (.str x) [.str "InvalidWishes", .str "InUse"]
def in0 (x : Str) : Bool := inV (.str x) [.str "NothingToUndo", .str ""]
def okW (i : Nat) : Bool := (!in5 (errN.getD i "") || gW i == "index") && (in5 (errN.getD i "") || !in2 (errN.getD i "") || gW i == "index") &&
  (in5 (errN.getD i "") || in2 (errN.getD i "") || (!decide (V.str (errN.getD i "") = .str "Broken") && (!decide (V.str (errN.getD i "") = .str "RunsOut") || gW i == "shown") &&
    (decide (V.str (errN.getD i "") = .str "RunsOut") || (!in0 (errN.getD i "") && gW i == "given"))))
theorem okW_all : ∀ i, i < 17 → okW i = true := by decide +kernel
theorem words_of (i : Nat) (hi : i < 17) : (in5 (errN.getD i "") = true → gW i = "index") ∧ (in5 (errN.getD i "") = false → in2 (errN.getD i "") = true → gW i = "index") ∧
    (in5 (errN.getD i "") = false → in2 (errN.getD i "") = false → decide (V.str (errN.getD i "") = .str "Broken") = false ∧
      (decide (V.str (errN.getD i "") = .str "RunsOut") = true → gW i = "shown") ∧
      (decide (V.str (errN.getD i "") = .str "RunsOut") = false → in0 (errN.getD i "") = false ∧ gW i = "given")) := by
  have h := okW_all i hi
  unfold okW at h
  revert h
  generalize in5 (errN.getD i "") = b5
  generalize in2 (errN.getD i "") = b2
  generalize in0 (errN.getD i "") = b0
  generalize decide (V.str (errN.getD i "") = .str "Broken") = bb
  generalize decide (V.str (errN.getD i "") = .str "RunsOut") = br
  intro h
  refine ⟨fun z => ?_, fun z z2 => ?_, fun z z2 => ⟨?_, fun z3 => ?_, fun z3 => ?_⟩⟩
  · subst z
    simp at h
    exact h
  · subst z z2
    simp at h
    exact h
  · subst z z2
    simp at h
    exact h.1.1
  · subst z z2 z3
    simp at h
    exact h.2
  · subst z z2 z3
    simp at h
    exact h.2
section
variable {P : Program} {w : World} {K : PySem.W.Frag} {mg : Str → Option Value} {base : Heap} {c f : Nat → Addr} {fd : Nat → FuncData}
theorem ok_field {g : Addr} {gd : FuncData} {j : Nat} (F : Fun K "_law_field" "_law_field" sField g gd) (E : Errs K mg c f fd) :
    FnOk P w K mg base CX0 (j + 1) g gd ["_law_e", "_law_word_now"] (spField c) := by
  refine F.ok scField (fun vs H Q E h => ?_) (fun cdv A outer s H vs Q E' hr h => ?_)
  · obtain ⟨a, ⟨i, v, rfl, _⟩ | ⟨v, v2, rfl, _⟩⟩ := h <;> rfl
  · refine ⟨_, pss_cons (ps_if (pt_cmpR op_in_seq (pv 1) (pe_lst (pa_cons pe_str (pa_cons pe_str (pa_cons pe_str (pa_cons pe_str (pa_cons pe_str pa_nil)))))) rfl) (pss_one (ps_ret (pe_att (pv 0)))) pss_nil)
      (pss_cons (ps_if (pt_cmpR op_in_seq (pv 1) (pe_lst (pa_cons pe_str (pa_cons pe_str pa_nil))) rfl) (pss_one (ps_ret (pe_att (pv 0)))) pss_nil)
      (pss_cons (ps_if (pt_cmpR op_eq (pv 1) pe_str (nomark _)) (pss_one (ps_ret (pe_lst (pa_cons (pe_att (pv 0)) (pa_cons (pe_att (pv 0)) pa_nil))))) pss_nil)
      (pss_cons (ps_if (pt_cmpR op_eq (pv 1) pe_str (nomark _)) (pss_one (ps_ret (pe_att (pv 0)))) pss_nil)
      (pss_one (ps_ret (pe_ifExp (pt_cmpR op_in_seq (pv 1) (pe_lst (pa_cons pe_str (pa_cons pe_str pa_nil))) rfl) pe_non (pe_att (pv 0)))))))), ?_⟩
    obtain ⟨a, ⟨i, v, rfl, hi, x, k⟩ | ⟨v, v2, rfl, x, k⟩⟩ := h
    · have T := E.xc i (by omega)
      have no := E.no i hi
      have get : ∀ {g : Str} {H1 : Hp}, gW i = g → Ex H H1 → Ev (tAtt K g (tVar 0)) [some (.ref a), some (.str (errN.getD i ""))] H1 v := fun {g H1} q e => by
        subst q
        exact ev_att (ev_var rfl) T (x.ext e) no (by simp [List.lookup])
      obtain ⟨w1, w2, w3⟩ := words_of i hi
      refine q_when (b := in5 (errN.getD i "")) (et_test (ev_inNL (ev_var rfl) (el_lst (ea_cons ev_c (ea_cons ev_c (ea_cons ev_c (ea_cons ev_c (ea_cons ev_c ea_nil))))) (Nat.le_of_ble_eq_true rfl)) rfl rfl))
        (fun b H1 e1 => s_ret (get (w1 b) e1) fun H2 e2 => k H2 (e1.trans e2)) fun b5 H1 e1 => ?_
      refine q_when (b := in2 (errN.getD i "")) (et_test (ev_inNL (ev_var rfl) (el_lst (ea_cons ev_c (ea_cons ev_c ea_nil)) (Nat.le_of_ble_eq_true rfl)) rfl rfl))
        (fun b H2 e2 => s_ret (get (w2 b5 b) (e1.trans e2)) fun H3 e3 => k H3 ((e1.trans e2).trans e3)) fun b2 H2 e2 => ?_
      obtain ⟨z1, z2, z3⟩ := w3 b5 b2
      refine q_when (b := false) (et_is (et_test (ev_op (ev_var rfl) ev_c (rv_eq rfl))) z1) (fun z => nomatch z) fun _ H3 e3 => ?_
      have x3 := (e1.trans e2).trans e3
      refine q_when (et_test (ev_op (ev_var rfl) ev_c (rv_eq rfl))) (fun b H4 e4 => s_ret (get (z2 b) (x3.trans e4)) fun H5 e5 => k H5 ((x3.trans e4).trans e5)) fun b4 H4 e4 => ?_
      obtain ⟨y1, y2⟩ := z3 b4
      exact s_ret (ev_if (b := false) (et_is (et_test (ev_inNL (ev_var rfl) (el_lst (ea_cons ev_c (ea_cons ev_c ea_nil)) (Nat.le_of_ble_eq_true rfl)) rfl rfl)) y1) (fun z => nomatch z) (fun _ => get y2 (x3.trans e4)))
        fun H5 e5 => k H5 ((x3.trans e4).trans e5)
    · have T := E.xc 17 (by decide)
      refine q_when (b := false) (et_is (et_test (ev_inNL (ev_var rfl) (el_lst (ea_cons ev_c (ea_cons ev_c (ea_cons ev_c (ea_cons ev_c (ea_cons ev_c ea_nil))))) (Nat.le_of_ble_eq_true rfl)) rfl rfl)) (by decide +kernel))
        (fun z => nomatch z) fun _ H1 e1 => ?_
      refine q_when (b := false) (et_is (et_test (ev_inNL (ev_var rfl) (el_lst (ea_cons ev_c (ea_cons ev_c ea_nil)) (Nat.le_of_ble_eq_true rfl)) rfl rfl)) (by decide +kernel)) (fun z => nomatch z) fun _ H2 e2 => ?_
      have x2 := e1.trans e2
      refine q_when (b := true) (et_is (et_test (ev_op (ev_var rfl) ev_c (rv_eq rfl))) (by decide +kernel)) (fun _ H3 e3 => ?_) (fun z => nomatch z)
      have x3 := x2.trans e3
      exact s_retL (el_lst (ea_cons (ev_att (ev_var rfl) T (x.ext x3) E.n17i (by rw [lookup_put, if_neg (by decide +kernel), lookup_put, if_pos rfl])) (ea_cons (ev_att (ev_var rfl) T (x.ext x3) E.n17s (by rw [lookup_put, if_pos rfl])) ea_nil)) (Nat.le_of_ble_eq_true rfl))
        fun p H4 hp e4 h4 => k p H4 (fresh_back x3 hp) (x3.trans e4) h4
end
/-! ### _law_odd -/
abbrev sOdd : Stmt := top 36
def oddD0 : List PyData := [.none, (.bool true), (.bool false), (.int 0), (.int 1), (.int (-1)), (.int 7), (.int ((10 : Int) ^ Int.toNat 39)), (.str ""), (.str "a"), (.str "x"), (.str "plates 3 away 0"), (.str "rest"), (.str "turn"), (.str "cut 2")]
def oddD1 : List PyData := [(.str "take 1 to 2 back top kept"), (.tuple []), (.tuple [(.int 0)]), (.tuple [(.int 1), (.int 2)]), (.tuple [(.int 1), (.int 1), (.int 1)]), (.tuple [(.tuple [(.int 1), (.int 2)])]), (.tuple [(.int 0), (.int 0), (.bool true)]), (.tuple [(.int 0), (.str "rest")])]
def oddD2 : List PyData := [(.list []), (.list [(.int 0)]), (.list [(.str "x")]), (.dict []), (.dict [((.str "a"), (.int 0))]), (.tuple [(.list [])]), (.tuple [.none]), (.tuple [(.tuple [])]), (.tuple [(.tuple [(.int 0), (.int 0), (.bool true)])]), (.tuple [(.str "runs")]), (.tuple [(.str "worn"), (.int 1)])]
def oddD3 : List PyData := [(.tuple [(.str "rest"), (.int 0), (.int 1)]), (.tuple [(.str "lead"), (.int 0), (.int 1), (.int 1)]), (.tuple [(.str "alike"), (.str "a"), (.str "b")]), (.tuple [(.str "a"), (.tuple [(.str "runs")])]), (.tuple [(.bool true)])]
def oddD : List PyData := ((oddD0 ++ oddD1) ++ oddD2) ++ oddD3
theorem scOdd : FnScope ["_law_spring_here", "_law_some"] ["_law_spring_here"] (defScope sOdd) := ⟨rfl, rfl, rfl, by decide +kernel, rfl, by decide +kernel, by decide +kernel⟩
def spOdd : Sp := fun vs H Q _ => ∃ p : Addr, vs = [.ref p] ∧ SpringAt H p ∧ ∀ x d H', d ∈ oddD → D1 p d H' x → But p H H' → SpringAt H' p → Q x H'
section
variable {P : Program} {w : World} {K : PySem.W.Frag} {mg : Str → Option Value} {base : Heap}
theorem ok_odd {g gO : Addr} {gd gdO : FuncData} {j : Nat} (F : Fun K "_law_odd" "_law_odd" sOdd g gd)
    (GO : FnOk P w K mg base CX0 (j + 2) gO gdO ["_law_spring_here", "_law_menu"] (spOf K)) (kO : PySem.W.keepIn K (.ref gO) = true) (bO : Binds K gdO ["_law_spring_here", "_law_menu"] []) (mO : mg "_law_of" = some (.ref gO)) :
    FnOk P w K mg base CX0 (j + 3) g gd ["_law_spring_here"] spOdd := by
  refine F.ok scOdd (fun vs H Q E h => ?_) (fun cdv A outer s H vs Q E' hr h => ?_)
  · obtain ⟨p, rfl, _⟩ := h
    rfl
  · obtain ⟨p, rfl, sp, k⟩ := h
    refine ⟨_, pss_cons (ps_set (i := 1) scOdd.nd rfl (.inl rfl) (pe_lst (pa_cons pe_non (pa_cons pe_bl (pa_cons pe_bl (pa_cons pe_int (pa_cons pe_int (pa_cons (pe_un un_neg pe_int) (pa_cons pe_int (pa_cons (pe_op op_pow pe_int pe_int) (pa_cons pe_str (pa_cons pe_str (pa_cons pe_str (pa_cons pe_str (pa_cons pe_str (pa_cons pe_str (pa_cons pe_str pa_nil)))))))))))))))))
      (pss_cons (ps_set (i := 1) scOdd.nd rfl (.inl rfl) (pe_op op_cat (pv 1) (pe_lst (pa_cons pe_str (pa_cons (pe_tup pa_nil) (pa_cons (pe_tup (pa_cons pe_int pa_nil)) (pa_cons (pe_tup (pa_cons pe_int (pa_cons pe_int pa_nil))) (pa_cons (pe_tup (pa_cons pe_int (pa_cons pe_int (pa_cons pe_int pa_nil)))) (pa_cons (pe_tup (pa_cons (pe_tup (pa_cons pe_int (pa_cons pe_int pa_nil))) pa_nil)) (pa_cons (pe_tup (pa_cons pe_int (pa_cons pe_int (pa_cons pe_bl pa_nil)))) (pa_cons (pe_tup (pa_cons pe_int (pa_cons pe_str pa_nil))) pa_nil)))))))))))
      (pss_cons (ps_set (i := 1) scOdd.nd rfl (.inl rfl) (pe_op op_cat (pv 1) (pe_lst (pa_cons (pe_lst pa_nil) (pa_cons (pe_lst (pa_cons pe_int pa_nil)) (pa_cons (pe_lst (pa_cons pe_str pa_nil)) (pa_cons pe_dnewK (pa_cons (pe_disp (pps_cons pe_str pe_int pps_nil) rfl rfl (by simp) (by decide)) (pa_cons (pe_tup (pa_cons (pe_lst pa_nil) pa_nil)) (pa_cons (pe_tup (pa_cons pe_non pa_nil)) (pa_cons (pe_tup (pa_cons (pe_tup pa_nil) pa_nil)) (pa_cons (pe_tup (pa_cons (pe_tup (pa_cons pe_int (pa_cons pe_int (pa_cons pe_bl pa_nil)))) pa_nil)) (pa_cons (pe_tup (pa_cons pe_str pa_nil)) (pa_cons (pe_tup (pa_cons pe_str (pa_cons pe_int pa_nil))) pa_nil))))))))))))))
      (pss_one (ps_ret (pe_call GO hr (by rfl) mO kO bO .nil pass0 (pa_cons (pv 0) (pa_cons (pe_op op_cat (pv 1) (pe_lst (pa_cons (pe_tup (pa_cons pe_str (pa_cons pe_int (pa_cons pe_int pa_nil)))) (pa_cons (pe_tup (pa_cons pe_str (pa_cons pe_int (pa_cons pe_int (pa_cons pe_int pa_nil))))) (pa_cons (pe_tup (pa_cons pe_str (pa_cons pe_str (pa_cons pe_str pa_nil)))) (pa_cons (pe_tup (pa_cons pe_str (pa_cons (pe_tup (pa_cons pe_str pa_nil)) pa_nil))) (pa_cons (pe_tup (pa_cons pe_bl pa_nil)) pa_nil))))))) pa_nil))))))), ?_⟩
    have keep : ∀ {H1 : Hp}, Ex H H1 → H1 p ≠ none := fun e => sp.elim fun l z => z.elim fun m z => z.elim fun t z => by rw [e _ _ z]; simp
    refine q_asgR (R := L1 p oddD0) (l_lst (keep (Ex.refl H)) (d_cons d_non (d_cons d_bl (d_cons d_bl (d_cons d_int (d_cons d_int (d_cons d_neg (d_cons d_int (d_cons (d_pow ⟨by decide, by decide, by decide⟩) (d_cons d_str (d_cons d_str (d_cons d_str (d_cons d_str (d_cons d_str (d_cons d_str (d_cons d_str d_nil))))))))))))))) (Nat.le_of_ble_eq_true rfl)) fun v1 H1 e1 l1 => ?_
    refine q_asgR (R := L1 p (oddD0 ++ oddD1)) (l_cat (keep e1) (l_var rfl l1) (l_lst (keep e1) (d_cons d_str (d_cons (d_tup (keep e1) d_nil (Nat.le_of_ble_eq_true rfl)) (d_cons (d_tup (keep e1) (d_cons d_int d_nil) (Nat.le_of_ble_eq_true rfl)) (d_cons (d_tup (keep e1) (d_cons d_int (d_cons d_int d_nil)) (Nat.le_of_ble_eq_true rfl)) (d_cons (d_tup (keep e1) (d_cons d_int (d_cons d_int (d_cons d_int d_nil))) (Nat.le_of_ble_eq_true rfl)) (d_cons (d_tup (keep e1) (d_cons (d_tup (keep e1) (d_cons d_int (d_cons d_int d_nil)) (Nat.le_of_ble_eq_true rfl)) d_nil) (Nat.le_of_ble_eq_true rfl)) (d_cons (d_tup (keep e1) (d_cons d_int (d_cons d_int (d_cons d_bl d_nil))) (Nat.le_of_ble_eq_true rfl)) (d_cons (d_tup (keep e1) (d_cons d_int (d_cons d_str d_nil)) (Nat.le_of_ble_eq_true rfl)) d_nil)))))))) (Nat.le_of_ble_eq_true rfl)) (Nat.le_of_ble_eq_true rfl)) fun v2 H2 e2' l2 => ?_
    have e2 := e1.trans e2'
    refine q_asgR (R := L1 p ((oddD0 ++ oddD1) ++ oddD2)) (l_cat (keep e2) (l_var rfl l2) (l_lst (keep e2) (d_cons (d_lst (keep e2) d_nil (Nat.le_of_ble_eq_true rfl)) (d_cons (d_lst (keep e2) (d_cons d_int d_nil) (Nat.le_of_ble_eq_true rfl)) (d_cons (d_lst (keep e2) (d_cons d_str d_nil) (Nat.le_of_ble_eq_true rfl)) (d_cons (d_dic0 (keep e2)) (d_cons (d_dic1 (keep e2)) (d_cons (d_tup (keep e2) (d_cons (d_lst (keep e2) d_nil (Nat.le_of_ble_eq_true rfl)) d_nil) (Nat.le_of_ble_eq_true rfl)) (d_cons (d_tup (keep e2) (d_cons d_non d_nil) (Nat.le_of_ble_eq_true rfl)) (d_cons (d_tup (keep e2) (d_cons (d_tup (keep e2) d_nil (Nat.le_of_ble_eq_true rfl)) d_nil) (Nat.le_of_ble_eq_true rfl)) (d_cons (d_tup (keep e2) (d_cons (d_tup (keep e2) (d_cons d_int (d_cons d_int (d_cons d_bl d_nil))) (Nat.le_of_ble_eq_true rfl)) d_nil) (Nat.le_of_ble_eq_true rfl)) (d_cons (d_tup (keep e2) (d_cons d_str d_nil) (Nat.le_of_ble_eq_true rfl)) (d_cons (d_tup (keep e2) (d_cons d_str (d_cons d_int d_nil)) (Nat.le_of_ble_eq_true rfl)) d_nil))))))))))) (Nat.le_of_ble_eq_true rfl)) (Nat.le_of_ble_eq_true rfl)) fun v3 H3 e3' l3 => ?_
    have e3 := e2.trans e3'
    have last : EvR _ [some (.ref p), some v3] H3 (L1 p oddD) := l_cat (keep e3) (l_var (i := 1) rfl l3) (l_lst (keep e3) (d_cons (d_tup (keep e3) (d_cons d_str (d_cons d_int (d_cons d_int d_nil))) (Nat.le_of_ble_eq_true rfl)) (d_cons (d_tup (keep e3) (d_cons d_str (d_cons d_int (d_cons d_int (d_cons d_int d_nil)))) (Nat.le_of_ble_eq_true rfl)) (d_cons (d_tup (keep e3) (d_cons d_str (d_cons d_str (d_cons d_str d_nil))) (Nat.le_of_ble_eq_true rfl)) (d_cons (d_tup (keep e3) (d_cons d_str (d_cons (d_tup (keep e3) (d_cons d_str d_nil) (Nat.le_of_ble_eq_true rfl)) d_nil)) (Nat.le_of_ble_eq_true rfl)) (d_cons (d_tup (keep e3) (d_cons d_bl d_nil) (Nat.le_of_ble_eq_true rfl)) d_nil))))) (Nat.le_of_ble_eq_true rfl)) (Nat.le_of_ble_eq_true rfl)
    refine ⟨.ref p, rfl, last H3 (Ex.refl H3) _ fun v H4 e4 l4 => ?_⟩
    obtain ⟨r, vs, rfl, nr, hr4, dr⟩ := l4
    have e5 := e3.trans e4
    have len : vs.length = 39 := dr.len
    refine ⟨p, r, vs, rfl, sq_of hr4, nr, by omega, by omega, ?_, fun x H' hx but sp' => ?_⟩
    · obtain ⟨l, m, t, z⟩ := sp
      exact ⟨l, m, t, e5 _ _ z⟩
    · obtain ⟨d, hd, dx⟩ := dats_mem dr hx
      exact k x d H' hd (Dat.mono but.hide dx) ((But.of e5).trans but) sp'
end
end PW
namespace PW
open PySem PySem.Spec PyProof.Rows L2 Evl
/-! ### _law_errors -/
/-- a new error of the class at C: told by its attributes -/
def XR (C : Addr) (fs : List (Str × V)) (H : Hp) (x : V) : Prop := ∃ a, x = .ref a ∧ ExAt H a C fs
theorem XR.mono {C : Addr} {fs : List (Str × V)} : Mono (XR C fs) := fun _ _ _ e ⟨a, q, x⟩ => ⟨a, q, x.ext e⟩
section
variable {K : PySem.W.Frag} {σ : L2.St} {H H' : Hp} {ta tb te : TE} {t : TA} {v v2 : V} {C : Addr} {g g2 : Str}
theorem ex_made {a d : Addr} {o o2 o3 : HO} {H : Hp} (ha : H a = none) (hd : upd H a o d = none) : Ex H (upd (upd (upd H a o) d o2) a o3) := fun b u e => by
  have nb : b ≠ a := ne_of_none e ha
  have nd : b ≠ d := fun q => by
    rw [← q, upd_ne nb] at hd
    rw [hd] at e
    cases e
  exact (upd_ne nb).trans ((upd_ne nd).trans ((upd_ne nb).trans e))
theorem er_mk (h : EvRs t σ H (fun _ vs => vs = [v])) : EvR (tMkX C (spIni C g) t) σ H (XR C [(g, v)]) := fun H1 e Q q =>
  h H1 e _ fun vs H2 e2 ev => by
    subst ev
    exact ⟨Nat.le_of_ble_eq_true rfl, fun a ha => ⟨a, v, rfl, upd_same, fun d hd ne => ⟨rfl, q _ _ (e2.trans (ex_made ha hd)) ⟨a, rfl, .inr ⟨d, upd_same, (upd_ne ne).trans upd_same⟩⟩⟩⟩⟩
theorem er_mk2 (h : EvRs t σ H (fun _ vs => vs = [v, v2])) : EvR (tMkX C (spIni2 C g g2) t) σ H (XR C [(g2, v2), (g, v)]) := fun H1 e Q q =>
  h H1 e _ fun vs H2 e2 ev => by
    subst ev
    refine ⟨Nat.le_of_ble_eq_true rfl, fun a ha => ⟨a, v, v2, rfl, upd_same, fun d hd ne => ⟨rfl, q _ _ (e2.trans fun b u z => ?_) ⟨a, rfl, .inr ⟨d, (upd_ne ne.symm).trans upd_same, upd_same⟩⟩⟩⟩⟩
    have nd : b ≠ d := fun q => by
      have nb : b ≠ a := ne_of_none z ha
      rw [← q, upd_ne nb] at hd
      rw [hd] at z
      cases z
    exact (upd_ne nd).trans (ex_made ha hd b u z)
theorem vs_one (h : Ev te σ H v) : EvRs (tCons te tNil) σ H (fun _ vs => vs = [v]) := fun H1 e Q q => h H1 e _ fun H2 e2 => q [v] H2 e2 rfl
theorem vs_two (h : Ev ta σ H v) (h2 : Ev tb σ H v2) : EvRs (tCons ta (tCons tb tNil)) σ H (fun _ vs => vs = [v, v2]) := fun H1 e Q q =>
  h H1 e _ fun H2 e2 => h2 H2 (e.trans e2) _ fun H3 e3 => q [v, v2] H3 (e2.trans e3) rfl
/-- errors in a row: the classes ks, the one attribute v each -/
def XL (c : Nat → Addr) (v : V) (ks : List Nat) (H : Hp) (vs : List V) : Prop := Paired (fun x k => XR (c k) [(gW k, v)] H x) vs ks
theorem XL.mono {c : Nat → Addr} {v : V} {ks : List Nat} : Mono (XL c v ks) := fun H H' vs e h => by
  induction h with
  | nil => exact .nil
  | cons a r ih => exact .cons (XR.mono _ _ _ e a) ih
theorem xl_cons {c : Nat → Addr} {k : Nat} {ks : List Nat} (h : EvR te σ H (XR (c k) [(gW k, v)])) (hr : EvRs t σ H (XL c v ks)) : EvRs (tCons te t) σ H (XL c v (k :: ks)) :=
  ers_cons XR.mono h hr fun _ _ _ _ a b => .cons a b
theorem xl_nil {c : Nat → Addr} : EvRs tNil σ H (XL c v []) := ers_nil fun _ _ => .nil
/-- a list of such errors, where it lies -/
def LX (c : Nat → Addr) (v : V) (ks : List Nat) (H : Hp) (x : V) : Prop := ∃ r vs, x = .ref r ∧ H r = some (.lst vs) ∧ XL c v ks H vs
theorem LX.mono {c : Nat → Addr} {v : V} {ks : List Nat} : Mono (LX c v ks) := fun H H' x e ⟨r, vs, a, b, d⟩ => ⟨r, vs, a, e _ _ b, XL.mono _ _ _ e d⟩
theorem paired_app {α β : Type} {F : α → β → Prop} {l2 : List α} {m2 : List β} : ∀ {l : List α} {m : List β}, Paired F l m → Paired F l2 m2 → Paired F (l ++ l2) (m ++ m2)
  | _, _, .nil, b => b
  | _, _, .cons a r, b => .cons a (paired_app r b)
theorem lx_lst {c : Nat → Addr} {ks : List Nat} (h : EvRs t σ H (XL c v ks)) (hz : ks.length ≤ 1000) : EvR (tLst t) σ H (LX c v ks) := fun H1 e Q q =>
  h H1 e _ fun vs H2 e2 s => ⟨sz_of (by rw [Paired.length s]; omega), fun r hr => q (.ref r) _ (e2.trans (Ex.new hr)) ⟨r, vs, rfl, upd_same, XL.mono _ _ _ (Ex.new hr) s⟩⟩
theorem lx_cat {c : Nat → Addr} {ks ms : List Nat} (ha : EvR ta σ H (LX c v ks)) (hb : EvR tb σ H (LX c v ms)) (hz : ks.length + ms.length ≤ 1000) :
    EvR (tOp rCat ta tb) σ H (LX c v (ks ++ ms)) := fun H1 e Q q =>
  ha H1 e _ fun x H2 e2 ⟨r, vs, ev, hr, dr⟩ => hb H2 (e.trans e2) _ fun y H3 e3 ⟨r2, vs2, ew, hr2, dr2⟩ => by
    subst ev ew
    exact ⟨r, r2, vs, vs2, rfl, rfl, e3 _ _ hr, hr2, sz_of (by rw [Paired.length dr, Paired.length dr2]; omega), fun l hl =>
      q (.ref l) _ ((e2.trans e3).trans (Ex.new hl)) ⟨l, _, rfl, upd_same, XL.mono _ _ _ (Ex.new hl) (paired_app (XL.mono _ _ _ e3 dr) dr2)⟩⟩
theorem lx_var {c : Nat → Addr} {ks : List Nat} {i : Nat} {x : V} (h : σ[i]? = some (some x)) (l : LX c v ks H x) : EvR (tVar i) σ H (LX c v ks) :=
  er_of (ev_var h) fun _ e => LX.mono _ _ _ e l
end
abbrev sErrors : Stmt := top 37
theorem scErrors : FnScope ["_law_thing", "_law_some"] ["_law_thing"] (defScope sErrors) := ⟨rfl, rfl, rfl, by decide +kernel, rfl, by decide +kernel, by decide +kernel⟩
theorem rev_vals : ∀ {vs : List V} {us : List Value}, Vals vs us → Vals vs.reverse us.reverse
  | _, _, .nil => .nil
  | _, _, .cons a r => by
    rw [List.reverse_cons, List.reverse_cons]
    exact paired_app (rev_vals r) (.cons a .nil)
def ksAll : List Nat := (((((((([0, 0, 1, 1] ++ [2, 2, 3, 3]) ++ [4, 4, 5, 5]) ++ [6, 6, 7, 7]) ++ [8, 8, 9, 9]) ++ [10, 10, 11]) ++ [11, 12, 12, 13]) ++ [13, 14, 14, 15, 15]) ++ [16, 16])
theorem ks_at : ∀ i, i < 34 → ksAll[i]? = some (i / 2) := by decide +kernel
def spErrors (c : Nat → Addr) : Sp := fun vs H Q _ => ∃ v : V, vs = [v] ∧ ∀ x H', Ex H H' → LX c v ksAll H' x → Q x H'
section
variable {P : Program} {w : World} {K : PySem.W.Frag} {mg : Str → Option Value} {base : Heap} {c f : Nat → Addr} {fd : Nat → FuncData}
theorem ok_errors {g : Addr} {gd : FuncData} {j : Nat} (F : Fun K "_law_errors" "_law_errors" sErrors g gd) (E : Errs K mg c f fd) :
    FnOk P w K mg base CX0 (j + 3) g gd ["_law_thing"] (spErrors c) := by
  refine F.ok scErrors (fun vs H Q E h => ?_) (fun cdv A outer s H vs Q E' hr h => ?_)
  · obtain ⟨v, rfl, _⟩ := h
    rfl
  · obtain ⟨v, rfl, k⟩ := h
    have hr2 := hr.mono (j := 2) (by omega)
    refine ⟨_, (pss_cons (ps_set (i := 1) scErrors.nd rfl (.inl rfl) (pe_lst (pa_cons (pe_mkX (E.xc 0 (by decide)) E.i0 E.t0 (ok_ini0 E.F0 (E.xc 0 (by decide)) E.n0g) hr2 (by rfl) E.g0 (pa_cons (pv 0) pa_nil) (bn0 E.F0)) (pa_cons (pe_mkXk (perm := id) (ks := ["given"]) (E.xc 0 (by decide)) E.i0 E.t0 (ok_ini0 E.F0 (E.xc 0 (by decide)) E.n0g) hr2 (by rfl) E.g0 (pk_cons (pv 0) pk_nil) (fun r => r) (bk0 E.F0) (fun _ => rfl) rfl) (pa_cons (pe_mkX (E.xc 1 (by decide)) E.i1 E.t1 (ok_ini1 E.F1 (E.xc 1 (by decide)) E.n1g) hr2 (by rfl) E.g1 (pa_cons (pv 0) pa_nil) (bn1 E.F1)) (pa_cons (pe_mkXk (perm := id) (ks := ["given"]) (E.xc 1 (by decide)) E.i1 E.t1 (ok_ini1 E.F1 (E.xc 1 (by decide)) E.n1g) hr2 (by rfl) E.g1 (pk_cons (pv 0) pk_nil) (fun r => r) (bk1 E.F1) (fun _ => rfl) rfl) pa_nil))))))
      (pss_cons (ps_set (i := 1) scErrors.nd rfl (.inl rfl) (pe_op op_cat (pv 1) (pe_lst (pa_cons (pe_mkX (E.xc 2 (by decide)) E.i2 E.t2 (ok_ini2 E.F2 (E.xc 2 (by decide)) E.n2g) hr2 (by rfl) E.g2 (pa_cons (pv 0) pa_nil) (bn2 E.F2)) (pa_cons (pe_mkXk (perm := id) (ks := ["given"]) (E.xc 2 (by decide)) E.i2 E.t2 (ok_ini2 E.F2 (E.xc 2 (by decide)) E.n2g) hr2 (by rfl) E.g2 (pk_cons (pv 0) pk_nil) (fun r => r) (bk2 E.F2) (fun _ => rfl) rfl) (pa_cons (pe_mkX (E.xc 3 (by decide)) E.i3 E.t3 (ok_ini3 E.F3 (E.xc 3 (by decide)) E.n3g) hr2 (by rfl) E.g3 (pa_cons (pv 0) pa_nil) (bn3 E.F3)) (pa_cons (pe_mkXk (perm := id) (ks := ["given"]) (E.xc 3 (by decide)) E.i3 E.t3 (ok_ini3 E.F3 (E.xc 3 (by decide)) E.n3g) hr2 (by rfl) E.g3 (pk_cons (pv 0) pk_nil) (fun r => r) (bk3 E.F3) (fun _ => rfl) rfl) pa_nil)))))))
      (pss_cons (ps_set (i := 1) scErrors.nd rfl (.inl rfl) (pe_op op_cat (pv 1) (pe_lst (pa_cons (pe_mkX (E.xc 4 (by decide)) E.i4 E.t4 (ok_ini4 E.F4 (E.xc 4 (by decide)) E.n4g) hr2 (by rfl) E.g4 (pa_cons (pv 0) pa_nil) (bn4 E.F4)) (pa_cons (pe_mkXk (perm := id) (ks := ["given"]) (E.xc 4 (by decide)) E.i4 E.t4 (ok_ini4 E.F4 (E.xc 4 (by decide)) E.n4g) hr2 (by rfl) E.g4 (pk_cons (pv 0) pk_nil) (fun r => r) (bk4 E.F4) (fun _ => rfl) rfl) (pa_cons (pe_mkX (E.xc 5 (by decide)) E.i5 E.t5 (ok_ini5 E.F5 (E.xc 5 (by decide)) E.n5g) hr2 (by rfl) E.g5 (pa_cons (pv 0) pa_nil) (bn5 E.F5)) (pa_cons (pe_mkXk (perm := id) (ks := ["given"]) (E.xc 5 (by decide)) E.i5 E.t5 (ok_ini5 E.F5 (E.xc 5 (by decide)) E.n5g) hr2 (by rfl) E.g5 (pk_cons (pv 0) pk_nil) (fun r => r) (bk5 E.F5) (fun _ => rfl) rfl) pa_nil)))))))
      (pss_cons (ps_set (i := 1) scErrors.nd rfl (.inl rfl) (pe_op op_cat (pv 1) (pe_lst (pa_cons (pe_mkX (E.xc 6 (by decide)) E.i6 E.t6 (ok_ini6 E.F6 (E.xc 6 (by decide)) E.n6i) hr2 (by rfl) E.g6 (pa_cons (pv 0) pa_nil) (bn6 E.F6)) (pa_cons (pe_mkXk (perm := id) (ks := ["index"]) (E.xc 6 (by decide)) E.i6 E.t6 (ok_ini6 E.F6 (E.xc 6 (by decide)) E.n6i) hr2 (by rfl) E.g6 (pk_cons (pv 0) pk_nil) (fun r => r) (bk6 E.F6) (fun _ => rfl) rfl) (pa_cons (pe_mkX (E.xc 7 (by decide)) E.i7 E.t7 (ok_ini7 E.F7 (E.xc 7 (by decide)) E.n7i) hr2 (by rfl) E.g7 (pa_cons (pv 0) pa_nil) (bn7 E.F7)) (pa_cons (pe_mkXk (perm := id) (ks := ["index"]) (E.xc 7 (by decide)) E.i7 E.t7 (ok_ini7 E.F7 (E.xc 7 (by decide)) E.n7i) hr2 (by rfl) E.g7 (pk_cons (pv 0) pk_nil) (fun r => r) (bk7 E.F7) (fun _ => rfl) rfl) pa_nil)))))))
      (pss_cons (ps_set (i := 1) scErrors.nd rfl (.inl rfl) (pe_op op_cat (pv 1) (pe_lst (pa_cons (pe_mkX (E.xc 8 (by decide)) E.i8 E.t8 (ok_ini8 E.F8 (E.xc 8 (by decide)) E.n8i) hr2 (by rfl) E.g8 (pa_cons (pv 0) pa_nil) (bn8 E.F8)) (pa_cons (pe_mkXk (perm := id) (ks := ["index"]) (E.xc 8 (by decide)) E.i8 E.t8 (ok_ini8 E.F8 (E.xc 8 (by decide)) E.n8i) hr2 (by rfl) E.g8 (pk_cons (pv 0) pk_nil) (fun r => r) (bk8 E.F8) (fun _ => rfl) rfl) (pa_cons (pe_mkX (E.xc 9 (by decide)) E.i9 E.t9 (ok_ini9 E.F9 (E.xc 9 (by decide)) E.n9i) hr2 (by rfl) E.g9 (pa_cons (pv 0) pa_nil) (bn9 E.F9)) (pa_cons (pe_mkXk (perm := id) (ks := ["index"]) (E.xc 9 (by decide)) E.i9 E.t9 (ok_ini9 E.F9 (E.xc 9 (by decide)) E.n9i) hr2 (by rfl) E.g9 (pk_cons (pv 0) pk_nil) (fun r => r) (bk9 E.F9) (fun _ => rfl) rfl) pa_nil)))))))
      (pss_cons (ps_set (i := 1) scErrors.nd rfl (.inl rfl) (pe_op op_cat (pv 1) (pe_lst (pa_cons (pe_mkX (E.xc 10 (by decide)) E.i10 E.t10 (ok_ini10 E.F10 (E.xc 10 (by decide)) E.n10i) hr2 (by rfl) E.g10 (pa_cons (pv 0) pa_nil) (bn10 E.F10)) (pa_cons (pe_mkXk (perm := id) (ks := ["index"]) (E.xc 10 (by decide)) E.i10 E.t10 (ok_ini10 E.F10 (E.xc 10 (by decide)) E.n10i) hr2 (by rfl) E.g10 (pk_cons (pv 0) pk_nil) (fun r => r) (bk10 E.F10) (fun _ => rfl) rfl) (pa_cons (pe_mkX (E.xc 11 (by decide)) E.i11 E.t11 (ok_ini11 E.F11 (E.xc 11 (by decide)) E.n11i) hr2 (by rfl) E.g11 (pa_cons (pv 0) pa_nil) (bn11 E.F11)) pa_nil))))))
      (pss_cons (ps_set (i := 1) scErrors.nd rfl (.inl rfl) (pe_op op_cat (pv 1) (pe_lst (pa_cons (pe_mkXk (perm := id) (ks := ["index"]) (E.xc 11 (by decide)) E.i11 E.t11 (ok_ini11 E.F11 (E.xc 11 (by decide)) E.n11i) hr2 (by rfl) E.g11 (pk_cons (pv 0) pk_nil) (fun r => r) (bk11 E.F11) (fun _ => rfl) rfl) (pa_cons (pe_mkX (E.xc 12 (by decide)) E.i12 E.t12 (ok_ini12 E.F12 (E.xc 12 (by decide)) E.n12g) hr2 (by rfl) E.g12 (pa_cons (pv 0) pa_nil) (bn12 E.F12)) (pa_cons (pe_mkXk (perm := id) (ks := ["given"]) (E.xc 12 (by decide)) E.i12 E.t12 (ok_ini12 E.F12 (E.xc 12 (by decide)) E.n12g) hr2 (by rfl) E.g12 (pk_cons (pv 0) pk_nil) (fun r => r) (bk12 E.F12) (fun _ => rfl) rfl) (pa_cons (pe_mkX (E.xc 13 (by decide)) E.i13 E.t13 (ok_ini13 E.F13 (E.xc 13 (by decide)) E.n13i) hr2 (by rfl) E.g13 (pa_cons (pv 0) pa_nil) (bn13 E.F13)) pa_nil)))))))
      (pss_cons (ps_set (i := 1) scErrors.nd rfl (.inl rfl) (pe_op op_cat (pv 1) (pe_lst (pa_cons (pe_mkXk (perm := id) (ks := ["index"]) (E.xc 13 (by decide)) E.i13 E.t13 (ok_ini13 E.F13 (E.xc 13 (by decide)) E.n13i) hr2 (by rfl) E.g13 (pk_cons (pv 0) pk_nil) (fun r => r) (bk13 E.F13) (fun _ => rfl) rfl) (pa_cons (pe_mkX (E.xc 14 (by decide)) E.i14 E.t14 (ok_ini14 E.F14 (E.xc 14 (by decide)) E.n14g) hr2 (by rfl) E.g14 (pa_cons (pv 0) pa_nil) (bn14 E.F14)) (pa_cons (pe_mkXk (perm := id) (ks := ["given"]) (E.xc 14 (by decide)) E.i14 E.t14 (ok_ini14 E.F14 (E.xc 14 (by decide)) E.n14g) hr2 (by rfl) E.g14 (pk_cons (pv 0) pk_nil) (fun r => r) (bk14 E.F14) (fun _ => rfl) rfl) (pa_cons (pe_mkX (E.xc 15 (by decide)) E.i15 E.t15 (ok_ini15 E.F15 (E.xc 15 (by decide)) E.n15g) hr2 (by rfl) E.g15 (pa_cons (pv 0) pa_nil) (bn15 E.F15)) (pa_cons (pe_mkXk (perm := id) (ks := ["given"]) (E.xc 15 (by decide)) E.i15 E.t15 (ok_ini15 E.F15 (E.xc 15 (by decide)) E.n15g) hr2 (by rfl) E.g15 (pk_cons (pv 0) pk_nil) (fun r => r) (bk15 E.F15) (fun _ => rfl) rfl) pa_nil))))))))
      (pss_one (ps_ret (pe_op op_cat (pv 1) (pe_lst (pa_cons (pe_mkX (E.xc 16 (by decide)) E.i16 E.t16 (ok_ini16 E.F16 (E.xc 16 (by decide)) E.n16s) hr2 (by rfl) E.g16 (pa_cons (pv 0) pa_nil) (bn16 E.F16)) (pa_cons (pe_mkXk (perm := id) (ks := ["shown"]) (E.xc 16 (by decide)) E.i16 E.t16 (ok_ini16 E.F16 (E.xc 16 (by decide)) E.n16s) hr2 (by rfl) E.g16 (pk_cons (pv 0) pk_nil) (fun r => r) (bk16 E.F16) (fun _ => rfl) rfl) pa_nil)))))))))))))), ?_⟩
    refine q_asgR (R := LX c v [0, 0, 1, 1]) (lx_lst (xl_cons (er_mk (vs_one (ev_var rfl))) (xl_cons (er_mk (vs_one (ev_var rfl))) (xl_cons (er_mk (vs_one (ev_var rfl))) (xl_cons (er_mk (vs_one (ev_var rfl))) xl_nil)))) (Nat.le_of_ble_eq_true rfl)) fun v0 H0 e0 l0 => ?_
    refine q_asgR (R := LX c v ([0, 0, 1, 1] ++ [2, 2, 3, 3])) (lx_cat (lx_var rfl l0) (lx_lst (xl_cons (er_mk (vs_one (ev_var rfl))) (xl_cons (er_mk (vs_one (ev_var rfl))) (xl_cons (er_mk (vs_one (ev_var rfl))) (xl_cons (er_mk (vs_one (ev_var rfl))) xl_nil)))) (Nat.le_of_ble_eq_true rfl)) (Nat.le_of_ble_eq_true rfl)) fun v1 H1 e1' l1 => ?_
    have e1 := e0.trans e1'
    refine q_asgR (R := LX c v (([0, 0, 1, 1] ++ [2, 2, 3, 3]) ++ [4, 4, 5, 5])) (lx_cat (lx_var rfl l1) (lx_lst (xl_cons (er_mk (vs_one (ev_var rfl))) (xl_cons (er_mk (vs_one (ev_var rfl))) (xl_cons (er_mk (vs_one (ev_var rfl))) (xl_cons (er_mk (vs_one (ev_var rfl))) xl_nil)))) (Nat.le_of_ble_eq_true rfl)) (Nat.le_of_ble_eq_true rfl)) fun v2 H2 e2' l2 => ?_
    have e2 := e1.trans e2'
    refine q_asgR (R := LX c v ((([0, 0, 1, 1] ++ [2, 2, 3, 3]) ++ [4, 4, 5, 5]) ++ [6, 6, 7, 7])) (lx_cat (lx_var rfl l2) (lx_lst (xl_cons (er_mk (vs_one (ev_var rfl))) (xl_cons (er_mk (vs_one (ev_var rfl))) (xl_cons (er_mk (vs_one (ev_var rfl))) (xl_cons (er_mk (vs_one (ev_var rfl))) xl_nil)))) (Nat.le_of_ble_eq_true rfl)) (Nat.le_of_ble_eq_true rfl)) fun v3 H3 e3' l3 => ?_
    have e3 := e2.trans e3'
    refine q_asgR (R := LX c v (((([0, 0, 1, 1] ++ [2, 2, 3, 3]) ++ [4, 4, 5, 5]) ++ [6, 6, 7, 7]) ++ [8, 8, 9, 9])) (lx_cat (lx_var rfl l3) (lx_lst (xl_cons (er_mk (vs_one (ev_var rfl))) (xl_cons (er_mk (vs_one (ev_var rfl))) (xl_cons (er_mk (vs_one (ev_var rfl))) (xl_cons (er_mk (vs_one (ev_var rfl))) xl_nil)))) (Nat.le_of_ble_eq_true rfl)) (Nat.le_of_ble_eq_true rfl)) fun v4 H4 e4' l4 => ?_
    have e4 := e3.trans e4'
    refine q_asgR (R := LX c v ((((([0, 0, 1, 1] ++ [2, 2, 3, 3]) ++ [4, 4, 5, 5]) ++ [6, 6, 7, 7]) ++ [8, 8, 9, 9]) ++ [10, 10, 11])) (lx_cat (lx_var rfl l4) (lx_lst (xl_cons (er_mk (vs_one (ev_var rfl))) (xl_cons (er_mk (vs_one (ev_var rfl))) (xl_cons (er_mk (vs_one (ev_var rfl))) xl_nil))) (Nat.le_of_ble_eq_true rfl)) (Nat.le_of_ble_eq_true rfl)) fun v5 H5 e5' l5 => ?_
    have e5 := e4.trans e5'
    refine q_asgR (R := LX c v (((((([0, 0, 1, 1] ++ [2, 2, 3, 3]) ++ [4, 4, 5, 5]) ++ [6, 6, 7, 7]) ++ [8, 8, 9, 9]) ++ [10, 10, 11]) ++ [11, 12, 12, 13])) (lx_cat (lx_var rfl l5) (lx_lst (xl_cons (er_mk (vs_one (ev_var rfl))) (xl_cons (er_mk (vs_one (ev_var rfl))) (xl_cons (er_mk (vs_one (ev_var rfl))) (xl_cons (er_mk (vs_one (ev_var rfl))) xl_nil)))) (Nat.le_of_ble_eq_true rfl)) (Nat.le_of_ble_eq_true rfl)) fun v6 H6 e6' l6 => ?_
    have e6 := e5.trans e6'
    refine q_asgR (R := LX c v ((((((([0, 0, 1, 1] ++ [2, 2, 3, 3]) ++ [4, 4, 5, 5]) ++ [6, 6, 7, 7]) ++ [8, 8, 9, 9]) ++ [10, 10, 11]) ++ [11, 12, 12, 13]) ++ [13, 14, 14, 15, 15])) (lx_cat (lx_var rfl l6) (lx_lst (xl_cons (er_mk (vs_one (ev_var rfl))) (xl_cons (er_mk (vs_one (ev_var rfl))) (xl_cons (er_mk (vs_one (ev_var rfl))) (xl_cons (er_mk (vs_one (ev_var rfl))) (xl_cons (er_mk (vs_one (ev_var rfl))) xl_nil))))) (Nat.le_of_ble_eq_true rfl)) (Nat.le_of_ble_eq_true rfl)) fun v7 H7 e7' l7 => ?_
    have e7 := e6.trans e7'
    exact (lx_cat (ks := ((((((([0, 0, 1, 1] ++ [2, 2, 3, 3]) ++ [4, 4, 5, 5]) ++ [6, 6, 7, 7]) ++ [8, 8, 9, 9]) ++ [10, 10, 11]) ++ [11, 12, 12, 13]) ++ [13, 14, 14, 15, 15])) (lx_var rfl l7) (lx_lst (xl_cons (er_mk (vs_one (ev_var rfl))) (xl_cons (er_mk (vs_one (ev_var rfl))) xl_nil)) (Nat.le_of_ble_eq_true rfl)) (Nat.le_of_ble_eq_true rfl)) _ (Ex.refl _) _ fun x H9 e9 l9 => k x H9 (e7.trans e9) l9
end
end PW
namespace PW
open PySem PySem.Spec PyProof.Rows L2 Evl
theorem bRepr : bootBuiltins "repr" = some (.builtin "repr") := by decide +kernel
theorem paired_get {α β : Type} {F : α → β → Prop} : ∀ {l : List α} {m : List β} {i : Nat} {b : β}, Paired F l m → m[i]? = some b → ∃ a, l[i]? = some a ∧ F a b
  | _, _, i, b, .nil, h => by simp at h
  | _, _, 0, b, .cons r t, h => by
    simp at h
    subst h
    exact ⟨_, rfl, r⟩
  | _, _, i + 1, b, .cons r t, h => by
    obtain ⟨a, h1, h2⟩ := paired_get (i := i) t (by simpa using h)
    exact ⟨a, by simpa using h1, h2⟩
/-! ### _law_right -/
theorem odd_ok : ∀ d ∈ oddD, d.showable = true ∧ d.shown.length ≤ 200 ∧ d.depth ≤ 5 := by decide +kernel
def twice (d e : PyData) : PyData := .list [.list [d, e], .list [d, e]]
theorem twice_ok {d e : PyData} (h : d.showable = true ∧ d.shown.length ≤ 200 ∧ d.depth ≤ 5) (h2 : e.showable = true ∧ e.shown.length ≤ 200 ∧ e.depth ≤ 5) :
    (twice d e).showable = true ∧ (twice d e).shown.length ≤ sizeLine ∧ (twice d e).depth ≤ 40 := by
  obtain ⟨a1, a2, a3⟩ := h
  obtain ⟨b1, b2, b3⟩ := h2
  refine ⟨?_, ?_, ?_⟩
  · simp [twice, PyData.showable, PyData.showableAll, a1, b1]
  · have i1 := listText_len_le [d.shown, e.shown]
    have i2 := listText_len_le [listText [d.shown, e.shown], listText [d.shown, e.shown]]
    simp only [List.map_cons, List.map_nil, List.sum_cons, List.sum_nil, List.length_cons, List.length_nil] at i1 i2
    have : (twice d e).shown.length ≤ 1000 := by
      show (listText [listText [d.shown, e.shown], listText [d.shown, e.shown]]).length ≤ 1000
      omega
    exact Nat.le_trans this (by decide)
  · show max (max d.depth (max e.depth 0) + 1) (max (max d.depth (max e.depth 0) + 1) 0) + 1 ≤ 40
    omega
section
variable {K : PySem.W.Frag} {σ : L2.St} {H H' : Hp} {ta tb te : TE} {t : TA} {v v2 : V} {C : Addr} {g g2 : Str}
/-- repr of what is told as data -/
theorem ev_reprR {d : PyData} (h : EvR te σ H (fun H1 x => Dat H1 x d)) (sh : d.showable = true) (sz : d.shown.length ≤ sizeLine) (dp : d.depth ≤ 40) : Ev (tCB (rRepr K) (tCons te tNil)) σ H (.str d.shown) := fun H1 e Q q =>
  h H1 e _ fun x H2 e2 r => ⟨x, d, rfl, r, sh, sz, dp, q H2 e2⟩
theorem ev_isNew {c : V} {u : Value} {C : Addr} {fs : List (Str × V)} {b : Bool} (ha : EvR ta σ H (XR C fs)) (hc : Ev tb σ H c)
    (k : ClsV c u) (T : XC K C) (e : PySem.W.kitOne K (.ref C) u = some b) : Ev (tCB (rIsX K) (tCons ta (tCons tb tNil))) σ H (.bl b) := fun H1 e1 Q q =>
  ha H1 e1 _ fun x H2 e2 ⟨a, ex, at_⟩ => hc H2 (e1.trans e2) _ fun H3 e3 => by
    subst ex
    exact ⟨a, C, fs, c, u, b, rfl, k, T, at_.ext e3, e, q H3 (e2.trans e3)⟩
theorem er_mk0 {C : Addr} : EvR (fun _ H Q => ∀ a, H a = none → Q (.ref a) (upd H a (exo a C none))) σ H (XR C []) := fun H1 e Q q a ha =>
  q (.ref a) _ (Ex.new ha) ⟨a, rfl, .inl ⟨upd_same, rfl⟩⟩
theorem ev_yes : EvT tYes σ H true := fun H1 _ _ q => q H1 (Ex.refl H1)
end
abbrev sRight : Stmt := top 38
theorem scRight : FnScope ["_law_spring_here", "_law_thing", "_law_mate_thing", "_law_words", "_law_some", "_law_k", "_law_word_now", "_law_pairs", "_law_each"] ["_law_spring_here"] (defScope sRight) := ⟨rfl, rfl, rfl, by decide +kernel, rfl, by decide +kernel, by decide +kernel⟩
def spRight : Sp := fun vs H Q _ => ∃ p : Addr, vs = [.ref p] ∧ SpringAt H p ∧ ∀ H', But p H H' → Q (.bl true) H'
def wordsW : List V := (errN.take 17).map V.str
theorem words_at : ∀ i, i < 34 → wordsW[i / 2]? = some (.str (errN.getD (i / 2) "")) := by decide +kernel
section
variable {P : Program} {w : World} {K : PySem.W.Frag} {mg : Str → Option Value} {base : Heap} {c f : Nat → Addr} {fd : Nat → FuncData}
/-- the defs that _law_right calls -/
structure Calls (K : PySem.W.Frag) (mg : Str → Option Value) (g : Nat → Addr) (gd : Nat → FuncData) : Prop where
  m0 : mg "_law_odd" = some (.ref (g 0))
  k0 : PySem.W.keepIn K (.ref (g 0)) = true
  b0 : Binds K (gd 0) ["_law_spring_here"] []
  m1 : mg "_law_errors" = some (.ref (g 1))
  k1 : PySem.W.keepIn K (.ref (g 1)) = true
  b1 : Binds K (gd 1) ["_law_thing"] []
  m2 : mg "_law_error" = some (.ref (g 2))
  k2 : PySem.W.keepIn K (.ref (g 2)) = true
  b2 : Binds K (gd 2) ["_law_e"] []
  m3 : mg "_law_field" = some (.ref (g 3))
  k3 : PySem.W.keepIn K (.ref (g 3)) = true
  b3 : Binds K (gd 3) ["_law_e", "_law_word_now"] []
theorem ok_right {h : Addr} {hd : FuncData} {g : Nat → Addr} {gd : Nat → FuncData} (F : Fun K "_law_right" "_law_right" sRight h hd) (B : Blt mg) (E : Errs K mg c f fd) (Z : Calls K mg g gd)
    (hs : (base.get? sysModules).isSome = true)
    (G0 : FnOk P w K mg base CX0 4 (g 0) (gd 0) ["_law_spring_here"] spOdd) (G1 : FnOk P w K mg base CX0 4 (g 1) (gd 1) ["_law_thing"] (spErrors c))
    (G2 : FnOk P w K mg base CX0 4 (g 2) (gd 2) ["_law_e"] (spError K c)) (G3 : FnOk P w K mg base CX0 4 (g 3) (gd 3) ["_law_e", "_law_word_now"] (spField c)) :
    FnG P w K mg base CX0 5 h hd ["_law_spring_here"] spRight := by
  refine okG F scRight (fun vs H Q E h => ?_) (fun cdv A outer s H vs Q E' st hr h => ?_)
  · obtain ⟨p, rfl, _⟩ := h
    rfl
  · obtain ⟨p, rfl, sp, k⟩ := h
    have hu : A.units + 3 + 64 < cLine := hr.units
    have hr2 := hr.mono (j := 2) (by decide)
    refine ⟨_, (pss_cons (ps_par (i := 1) (j := 2) rfl scRight.nd rfl rfl (by decide) rfl rfl (pa_cons (pe_call G0 hr (by rfl) Z.m0 Z.k0 Z.b0 .nil pass0 (pa_cons (pv 0) pa_nil)) (pa_cons (pe_call G0 hr (by rfl) Z.m0 Z.k0 Z.b0 .nil pass0 (pa_cons (pv 0) pa_nil)) pa_nil)) (by rfl))
      (pss_cons (ps_set (i := 3) scRight.nd rfl (.inl rfl) (pe_lst (pa_cons pe_str (pa_cons pe_str (pa_cons pe_str (pa_cons pe_str (pa_cons pe_str (pa_cons pe_str pa_nil))))))))
      (pss_cons (ps_set (i := 3) scRight.nd rfl (.inl rfl) (pe_op op_cat (pv 3) (pe_lst (pa_cons pe_str (pa_cons pe_str (pa_cons pe_str (pa_cons pe_str (pa_cons pe_str pa_nil))))))))
      (pss_cons (ps_set (i := 3) scRight.nd rfl (.inl rfl) (pe_op op_cat (pv 3) (pe_lst (pa_cons pe_str (pa_cons pe_str (pa_cons pe_str (pa_cons pe_str (pa_cons pe_str (pa_cons pe_str pa_nil)))))))))
      (pss_cons (ps_set (i := 4) scRight.nd rfl (.inl rfl) (pe_call G1 hr (by rfl) Z.m1 Z.k1 Z.b1 .nil pass0 (pa_cons (pv 1) pa_nil)))
      (pss_cons (ps_for PassesOwn.never rfl (pi_range1 rfl B.range (pa_cons (pe_callB call_len_seq (by rfl) B.len PySem.boot_len (pa_cons (pv 4) pa_nil)) pa_nil)) (pg_name (i := 5) scRight.nd rfl (Or.inl rfl))
        (pss_cons (ps_set (i := 6) scRight.nd rfl (.inl rfl) (pe_call G2 hr (by rfl) Z.m2 Z.k2 Z.b2 .nil pass0 (pa_cons (pe_ix ix_list (pv 4) (pv 5) (fun _ _ => rfl)) pa_nil)))
        (pss_one (ps_if (pw_or (pt_cmpR op_ne (pv 6) (pe_ix ix_list (pv 3) (pe_op op_fdiv (pv 5) pe_int) (fun _ _ => rfl)) (nomark _)) (pw_or1 (pt_cmpR op_ne (pe_callB (call_reprD st hu hs) (by rfl) B.repr bRepr (pa_cons (pe_call G3 hr (by rfl) Z.m3 Z.k3 Z.b3 .nil pass0 (pa_cons (pe_ix ix_list (pv 4) (pv 5) (fun _ _ => rfl)) (pa_cons (pv 6) pa_nil))) pa_nil)) (pe_callB (call_reprD st hu hs) (by rfl) B.repr bRepr (pa_cons (pv 1) pa_nil)) (nomark _)))).pt (pss_one (ps_ret pe_bl)) pss_nil))))
      (pss_cons (ps_set (i := 7) scRight.nd rfl (.inl rfl) (pe_lst (pa_cons (pe_mkX (E.xc 17 (by decide)) E.i17 E.t17 (ok_ini17 E.F17 (E.xc 17 (by decide)) E.n17i E.n17s) hr2 (by rfl) E.g17 (pa_cons (pv 1) (pa_cons (pv 2) pa_nil)) (bn17 E.F17)) (pa_cons (pe_mkXk (perm := List.reverse) (ks := ["shown", "index"]) (E.xc 17 (by decide)) E.i17 E.t17 (ok_ini17 E.F17 (E.xc 17 (by decide)) E.n17i E.n17s) hr2 (by rfl) E.g17 (pk_cons (pv 2) (pk_cons (pv 1) pk_nil)) rev_vals (bk17 E.F17) (fun _ => List.length_reverse) rfl) pa_nil))))
      (pss_cons (ps_if (pt_cmpR (op_neD hu) (pe_lc (own := [("_law_each", 8)]) (g := gName 8) (tt := tYes) rfl scRight.nd (pi_list (pv 7)) (blkOk_by (N := ["_law_spring_here", "_law_thing", "_law_mate_thing", "_law_words", "_law_some", "_law_k", "_law_word_now", "_law_pairs", "_law_each"]) (sc := defScope sRight) (by decide +kernel)) (fun _ _ _ _ _ => pg_name (i := 8) scRight.nd rfl (Or.inl rfl)) (fun _ _ _ _ _ => pts_nil) (fun _ _ _ _ _ => (pe_call G2 hr (by rfl) Z.m2 Z.k2 Z.b2 .nil pass0 (pa_cons (pv 8) pa_nil)))) (pe_lst (pa_cons pe_str (pa_cons pe_str pa_nil))) (nomark _)) (pss_one (ps_ret pe_bl)) pss_nil)
      (pss_cons (ps_if (pt_cmpR op_ne (pe_callB (call_reprD st hu hs) (by rfl) B.repr bRepr (pa_cons (pe_lc (own := [("_law_each", 8)]) (g := gName 8) (tt := tYes) rfl scRight.nd (pi_list (pv 7)) (blkOk_by (N := ["_law_spring_here", "_law_thing", "_law_mate_thing", "_law_words", "_law_some", "_law_k", "_law_word_now", "_law_pairs", "_law_each"]) (sc := defScope sRight) (by decide +kernel)) (fun _ _ _ _ _ => pg_name (i := 8) scRight.nd rfl (Or.inl rfl)) (fun _ _ _ _ _ => pts_nil) (fun _ _ _ _ _ => (pe_call G3 hr (by rfl) Z.m3 Z.k3 Z.b3 .nil pass0 (pa_cons (pv 8) (pa_cons pe_str pa_nil))))) pa_nil)) (pe_callB (call_reprD st hu hs) (by rfl) B.repr bRepr (pa_cons (pe_op op_rep (pe_lst (pa_cons (pe_lst (pa_cons (pv 1) (pa_cons (pv 2) pa_nil))) pa_nil)) pe_int) pa_nil)) (nomark _)) (pss_one (ps_ret pe_bl)) pss_nil)
      (pss_one (ps_ret (pe_cmpR op_eq (pe_call G2 hr (by rfl) Z.m2 Z.k2 Z.b2 .nil pass0 (pa_cons (pe_mkX0 (E.xc 18 (by decide)) PySem.F.excBase_ArithmeticError E.m18 E.i18 (by rfl) E.g18) pa_nil)) pe_str (nomark _))))))))))))), ?_⟩
    -- the two things
    refine ⟨.ref p, rfl, p, rfl, sp, fun x d H1 hd dx but1 sp1 => ?_⟩
    refine ⟨.ref p, rfl, p, rfl, sp1, fun y e H2 he dy but2 sp2 => ⟨x, y, rfl, ?_⟩⟩
    have Dx : Dat H2 x d := Dat.mono hide_ex (Dat.mono but2.hide dx)
    have Dy : Dat H2 y e := Dat.mono hide_ex dy
    have fin : ∀ H', Ex H2 H' → Q (.bl true) H' := fun H' e' => k H' ((but1.trans but2).trans (But.of e'))
    have okx := odd_ok d hd
    have oky := odd_ok e he
    -- words
    refine q_asgL (el_lst (ea_cons ev_c (ea_cons ev_c (ea_cons ev_c (ea_cons ev_c (ea_cons ev_c (ea_cons ev_c ea_nil)))))) (Nat.le_of_ble_eq_true rfl)) fun pa Ha na ea ha => ?_
    refine q_asgL (el_cat (ev_var rfl) ha (el_lst (ea_cons ev_c (ea_cons ev_c (ea_cons ev_c (ea_cons ev_c (ea_cons ev_c ea_nil))))) (Nat.le_of_ble_eq_true rfl)) (Nat.le_of_ble_eq_true rfl)) fun pb Hb nb eb hb => ?_
    refine q_asgL (el_cat (ev_var rfl) hb (el_lst (ea_cons ev_c (ea_cons ev_c (ea_cons ev_c (ea_cons ev_c (ea_cons ev_c (ea_cons ev_c ea_nil)))))) (Nat.le_of_ble_eq_true rfl)) (Nat.le_of_ble_eq_true rfl)) fun pw H3 nw e3' hw' => ?_
    have hw : H3 pw = some (.lst wordsW) := hw'
    have e3 : Ex H2 H3 := (ea.trans eb).trans e3'
    -- errors
    refine q_asgR (R := LX c x ksAll) (fun H9 e9 Q9 q9 => ⟨x, rfl, x, rfl, fun z H' e' l => q9 z H' e' l⟩) fun v4 H4 e4' l4 => ?_
    have e4 : Ex H2 H4 := e3.trans e4'
    obtain ⟨r4, xs, rfl, hr4, xl⟩ := l4
    have len : xs.length = 34 := xl.length
    have hw4 : H4 pw = some (.lst wordsW) := e4' _ _ hw
    -- the loop
    have arg : EvA (tCons (tCB (fun xs H Q => ∃ p ys, xs = [.ref p] ∧ (SqL K H p ys ∨ SqT K H p ys) ∧ Q (.int ys.length) H) (tCons (tVar 4) tNil)) tNil)
        [some (.ref p), some x, some y, some (.ref pw), some (.ref r4), none, none, none, none] H4 [.int 34] := by
      have z : ((xs.length : Nat) : Int) = 34 := by rw [len]; rfl
      rw [← z]
      exact ea_cons (ev_len (ev_var rfl) (sq_of hr4)) ea_nil
    refine q_forR1 (n := 34) arg ⟨by decide, by decide⟩ (fun i σ' H' => ∃ yk yw : Option V, σ' = [some (.ref p), some x, some y, some (.ref pw), some (.ref r4), yk, yw, none, none] ∧ Ex H4 H')
      (fun H9 e9 => ⟨none, none, rfl, e9⟩) ?_ ?_
    · rintro i σ' H' hi ⟨yk, yw, rfl, ex⟩
      have hi34 : i < 34 := by omega
      have half : i / 2 < 17 := by omega
      obtain ⟨a0, ha0, a, rfl, at_⟩ := paired_get xl (ks_at i hi34)
      have elt : ∀ {w6 : Option V} {H9 : Hp}, Ex H' H9 → Ev (tOp (rIxL K) (tVar 4) (tVar 5)) [some (.ref p), some x, some y, some (.ref pw), some (.ref r4), some (.int (i : Int)), w6, none, none] H9 (.ref a) := fun e9 =>
        ev_op (ev_var rfl) (ev_var rfl) (rv_ixL (sq_of ((ex.trans e9) _ _ hr4)) (atI_nat ha0))
      refine q_asg (v := .str (errN.getD (i / 2) "")) (ev_call (ea_cons (elt (Ex.refl _)) ea_nil) fun H9 e9 Q9 q9 _ => ⟨a, i / 2, _, rfl, by omega, at_.ext (ex.trans e9), fun H' e' => q9 H' e'⟩) fun H8 e8 => ?_
      have half2 : (i : Int) / 2 = ((i / 2 : Nat) : Int) := by omega
      refine s_when (b := false) (et_is (et_or (et_test (ev_op (ev_var rfl) (ev_op (ev_var rfl) (ev_op (ev_var rfl) ev_c (rv_I ⟨by decide, by decide⟩))
          (rv_ixL (sq_of ((ex.trans e8) _ _ hw4)) (by rw [half2]; exact atI_nat (words_at i hi34)))) (rv_ne rfl)))
        (fun _ => et_test (ev_op (ev_repr (ev_call (ea_cons (elt e8) (ea_cons (ev_var rfl) ea_nil)) fun H9 e9 Q9 q9 _ => ⟨a, .inl ⟨i / 2, x, rfl, half, at_.ext ((ex.trans e8).trans e9), fun H' e' => q9 H' e'⟩⟩)
            (Dat.mono ((e4.trans ex).trans e8) Dx) okx.1 (Nat.le_trans okx.2.1 (by decide)) (Nat.le_trans okx.2.2 (by decide)))
          (ev_repr (ev_var rfl) (Dat.mono ((e4.trans ex).trans e8) Dx) okx.1 (Nat.le_trans okx.2.1 (by decide)) (Nat.le_trans okx.2.2 (by decide))) (rv_ne rfl)))) ?_)
        (fun z => nomatch z) fun _ H9 e9 => ⟨_, _, rfl, (ex.trans e8).trans e9⟩
      simp
    · rintro σ' H5 ⟨yk, yw, rfl, e5'⟩
      have e5 : Ex H2 H5 := e4.trans e5'
      -- the pairs
      have two : EvRs (tCons (tVar 1) (tCons (tVar 2) tNil)) [some (.ref p), some x, some y, some (.ref pw), some (.ref r4), yk, yw, none, none] H5 (fun _ vs => vs = [x, y]) := vs_two (ev_var rfl) (ev_var rfl)
      have two' : EvRs (fun σ H Q => tCons (tVar 2) (tCons (tVar 1) tNil) σ H fun vs H1 => Q (List.reverse vs) H1) [some (.ref p), some x, some y, some (.ref pw), some (.ref r4), yk, yw, none, none] H5 (fun _ vs => vs = [x, y]) :=
        fun H9 e9 Q9 q9 => ⟨y, rfl, x, rfl, q9 [x, y] H9 (Ex.refl _) rfl⟩
      refine q_asgR (R := fun H9 v => ∃ r a b, v = .ref r ∧ H9 r = some (.lst [.ref a, .ref b]) ∧ ExAt H9 a (c 17) [("shown", y), ("index", x)] ∧ ExAt H9 b (c 17) [("shown", y), ("index", x)])
        (EvR.imp (er_lst (S := fun H9 vs => ∃ a b, vs = [.ref a, .ref b] ∧ ExAt H9 a (c 17) [("shown", y), ("index", x)] ∧ ExAt H9 b (c 17) [("shown", y), ("index", x)])
          (ers_cons XR.mono (er_mk2 two) (ers_cons (S' := fun H9 vs => ∃ b, vs = [.ref b] ∧ ExAt H9 b (c 17) [("shown", y), ("index", x)]) XR.mono (er_mk2 two') (ers_nil (S := fun _ vs => vs = []) fun _ _ => rfl)
            (fun H9 v vs _ ⟨b, hb, ab⟩ hv => ⟨b, by rw [hb, hv], ab⟩)) (fun H9 v vs _ ⟨a, ha, aa⟩ ⟨b, hb, ab⟩ => ⟨a, b, by rw [ha, hb], aa, ab⟩))
          (fun H8 H9 vs ex ⟨a, b, h1, h2, h3⟩ => ⟨a, b, h1, h2.ext ex, h3.ext ex⟩) (fun H9 vs ⟨a, b, h1, _⟩ => by rw [h1]; exact Nat.le_of_ble_eq_true rfl))
          (fun H9 v _ ⟨r, vs, h1, h2, a, b, h3, h4, h5⟩ => ⟨r, a, b, h1, by rw [h2, h3], h4, h5⟩)) fun v7 H7 e7' l7 => ?_
      have e7 : Ex H2 H7 := e5.trans e7'
      obtain ⟨r7, a7, b7, rfl, hr7, xa, xb⟩ := l7
      have each : ∀ {i : Nat} {z : V}, [V.ref a7, V.ref b7][i]? = some z → ∃ a, z = .ref a ∧ ExAt H7 a (c 17) [("shown", y), ("index", x)] := fun {i z} hz => by
        match i, hz with
        | 0, hz => exact ⟨a7, (Option.some.inj hz).symm, xa⟩
        | 1, hz => exact ⟨b7, (Option.some.inj hz).symm, xb⟩
      -- [_law_error(..) ..] != ['Broken', 'Broken']
      refine q_when (b := false) (et_is (et_test (ev_opLL (z := .bl (!PyData.eqv (.list [.str "Broken", .str "Broken"]) (.list [.str "Broken", .str "Broken"])))
        (el_lcL (fun _ => true) (fun _ => .str "Broken") (ev_var rfl) (sq_of hr7) (Nat.le_of_ble_eq_true rfl) (fun _ => rfl) (fun _ _ _ _ _ => ev_yes) (fun i z H9 e9 hz _ => by
          obtain ⟨a, rfl, at_⟩ := each hz
          exact ev_call (ea_cons (ev_var rfl) ea_nil) fun H10 e10 Q9 q9 _ => ⟨a, 17, _, rfl, by decide, at_.ext (e9.trans e10), fun H' e' => q9 H' e'⟩))
        (el_lst (ea_cons ev_c (ea_cons ev_c ea_nil)) (Nat.le_of_ble_eq_true rfl)) (fun p1 q1 H9 hp hq _ H10 e10 Q9 q9 => ⟨_, _, .lst (sq_of (e10 _ _ hp)) (.cons (.str _) (.cons (.str _) .nil)),
          .lst (sq_of (e10 _ _ hq)) (.cons (.str _) (.cons (.str _) .nil)), by decide +kernel, by decide +kernel, q9 H10 (Ex.refl _)⟩))) (by decide +kernel)) (fun z => nomatch z) fun _ H8 e8' => ?_
      have e8 : Ex H2 H8 := e7.trans e8'
      -- repr([_law_field(..) ..]) != repr([[..]] * 2)
      obtain ⟨tw1, tw2, tw3⟩ := twice_ok okx oky
      refine q_when (b := false) (et_is (et_test (ev_op (ev_reprR (d := twice d e) (fun H9 e9 Q9 q9 => ⟨.ref r7, rfl, r7, rfl, ⟨_, sq_of (e9 _ _ (e8' _ _ hr7))⟩, fun Dl hD => ?_⟩) tw1 tw2 tw3)
        (ev_reprR (d := twice d e) (fun H9 e9 Q9 q9 => ?_) tw1 tw2 tw3) (rv_ne rfl))) ?_) (fun z => nomatch z) fun _ H9 e9' => ?_
      · have old := e9 _ _ (e8' _ _ hr7)
        refine lc_list (xs := [.ref a7, .ref b7]) (fun i H' => Ex H9 H' ∧ ∃ qs : List Addr, qs.length = i ∧ H' Dl = some (.lst (qs.map V.ref)) ∧ ∀ q ∈ qs, H' q = some (.lst [x, y]) ∧ q ≠ Dl)
          ⟨Ex.new hD, [], rfl, upd_same, fun _ h => by cases h⟩ (fun i H' _ z => sq_of (z.1 _ _ old)) ?_ ?_
        · rintro i z H' hz ⟨ex, qs, hl, hq, hall⟩
          obtain ⟨a, rfl, at_⟩ := each hz
          have hi2 : i < 2 := (List.getElem?_eq_some_iff.mp hz).1
          refine ⟨rfl, .ref a, rfl, a, .inr ⟨x, y, rfl, at_.ext ((e8'.trans e9).trans ex), fun q H10 nq e10 h10 => ?_⟩⟩
          have nqD : q ≠ Dl := fun z => by
            rw [z, hq] at nq
            cases nq
          refine ⟨qs.map V.ref, e10 _ _ hq, ?_, ?_, qs ++ [q], ?_, ?_, fun r hr => ?_⟩
          · rw [List.length_map, hl]
            exact sz_lt (by omega)
          · exact Ex.mut (ex.trans e10) hD
          · rw [List.length_append, hl]
            rfl
          · rw [upd_same, List.map_append]
            rfl
          · rcases List.mem_append.mp hr with hr | hr
            · exact ⟨(upd_ne (hall r hr).2).trans (e10 _ _ (hall r hr).1), (hall r hr).2⟩
            · obtain rfl := List.mem_singleton.mp hr
              exact ⟨(upd_ne nqD).trans h10, nqD⟩
        · rintro H' ⟨ex, qs, hl, hq, hall⟩
          match qs, hl, hq, hall with
          | [q1, q2], _, hq, hall =>
            have dx9 := Dat.mono ((e8.trans e9).trans ex) Dx
            have dy9 := Dat.mono ((e8.trans e9).trans ex) Dy
            refine q9 (.ref Dl) H' ex (.lst (.inl hq) (.cons ?_ (.cons ?_ .nil)))
            · exact .lst (.inl (hall q1 (by simp)).1) (.cons dx9 (.cons dy9 .nil))
            · exact .lst (.inl (hall q2 (by simp)).1) (.cons dx9 (.cons dy9 .nil))
      · refine ⟨x, rfl, y, rfl, by show 2 ≤ sizeLine; decide, fun l1 n1 => ⟨by show 1 ≤ sizeLine; decide, fun l2 n2 => ?_⟩⟩
        refine ⟨l2, 2, [.ref l1], rfl, rfl, upd_same, by decide, by decide, by show 1 * 2 ≤ sizeLine; decide, fun l3 n3 => ?_⟩
        have ex1 : Ex H9 (upd H9 l1 (.lst [x, y])) := Ex.new n1
        have ex2 := Ex.new (o := .lst [V.ref l1]) n2
        have ex3 := Ex.new (o := .lst (List.replicate (Int.toNat 2) [V.ref l1]).flatten) n3
        have all := (ex1.trans ex2).trans ex3
        have dx9 := Dat.mono ((e8.trans e9).trans all) Dx
        have dy9 := Dat.mono ((e8.trans e9).trans all) Dy
        have at1 := (ex2.trans ex3) _ _ (show (upd H9 l1 (.lst [x, y])) l1 = _ from upd_same)
        exact q9 (.ref l3) _ all (.lst (xs := [.ref l1, .ref l1]) (.inl upd_same) (.cons (.lst (.inl at1) (.cons dx9 (.cons dy9 .nil))) (.cons (.lst (.inl at1) (.cons dx9 (.cons dy9 .nil))) .nil)))
      · simp
      · have e9 : Ex H2 H9 := e8.trans e9'
        refine s_ret (v := .bl true) (ev_is (ev_op (x := .str "NothingToUndo") (fun H10 e10 Q9 q9 a ha => ⟨a, 18, [], rfl, by decide, .inl ⟨upd_same, rfl⟩, fun H' e' => q9 H' ((Ex.new ha).trans e')⟩) ev_c (rv_eq rfl)) (by decide +kernel)) fun H10 e10 => fin H10 (e9.trans e10)
end
end PW
namespace PW
open PySem PySem.Spec PyProof.Rows L2 Evl
theorem bMax : bootBuiltins "max" = some (.builtin "max") := by decide +kernel
theorem bMin : bootBuiltins "min" = some (.builtin "min") := by decide +kernel
theorem bAll : bootBuiltins "all" = some (.builtin "all") := by decide +kernel
def rMin2 : List V → Hp → VK → Prop := fun xs H Q => ∃ i j, xs = [.int i, .int j] ∧ Q (.int (if j < i then j else i)) H
theorem ev_min2 {ta tb : TE} {σ : L2.St} {H : Hp} {i j : Int} (ha : Ev ta σ H (.int i)) (hb : Ev tb σ H (.int j)) : Ev (tCB rMin2 (tCons ta (tCons tb tNil))) σ H (.int (if j < i then j else i)) :=
  ev_cb (ea_cons ha (ea_cons hb ea_nil)) fun H1 _ Q q => ⟨i, j, rfl, q H1 (Ex.refl H1)⟩
theorem given_const (n : Nat) : given n (fun _ => true) (fun _ => V.bl true) = (List.replicate n true).map V.bl := by
  induction n with
  | zero => rfl
  | succ n ih => rw [given_yes rfl, ih, List.replicate_succ', List.map_append]; rfl
theorem ev_allL {K : PySem.W.Frag} {te : TE} {σ : L2.St} {H : Hp} {bs : List Bool} (h : EvL te σ H (bs.map V.bl)) : Ev (tCB (rAll K) (tCons te tNil)) σ H (.bl (bs.all id)) := fun H1 e Q q =>
  h H1 e _ fun p H2 _ e2 h2 => ⟨p, bs, rfl, sq_of h2, q H2 e2⟩
theorem el_is {te : TE} {σ : L2.St} {H : Hp} {xs ys : List V} (h : EvL te σ H xs) (e : xs = ys) : EvL te σ H ys := e ▸ h
theorem all_true (n : Nat) : (List.replicate n true).all id = true := by simp
/-! ### law -/
abbrev sLaw : Stmt := top 39
theorem scLaw : FnScope ["_law_script", "_law_told", "_law_bases", "_law_k"] ["_law_script"] (defScope sLaw) := ⟨rfl, rfl, rfl, by decide +kernel, rfl, by decide +kernel, by decide +kernel⟩
def spLaw (K : PySem.W.Frag) : Sp := fun vs H Q _ => ∃ (a : Addr) (ns : List Int), vs = [.ref a] ∧ SqL K H a (ns.map V.int) ∧ ns.length ≤ 63 ∧ ∀ H', Q (.bl true) H'
theorem dats_ints {H : Hp} : ∀ ns : List Int, Dats H (ns.map V.int) (ns.map PyData.int)
  | [] => .nil
  | n :: ns => .cons (.int n) (dats_ints ns)
def toldW : List Int := [10, 2, 6, 6, 9, 5, 5]
theorem told_ok : (PyData.list (toldW.map PyData.int)).showable = true ∧ (PyData.list (toldW.map PyData.int)).shown.length ≤ 200 ∧ (PyData.list (toldW.map PyData.int)).depth ≤ 40 := by decide +kernel
structure Told (mg : Str → Option Value) : Prop where
  most_plates : ∃ t, mg "MOST_PLATES" = some (.int 10 t)
  most_away : ∃ t, mg "MOST_AWAY" = some (.int 2 t)
  most_days : ∃ t, mg "MOST_DAYS" = some (.int 6 t)
  most_taken : ∃ t, mg "MOST_TAKEN" = some (.int 6 t)
  most_under : ∃ t, mg "MOST_UNDER" = some (.int 9 t)
  most_seen : ∃ t, mg "MOST_SEEN" = some (.int 5 t)
  most_exchanges : ∃ t, mg "MOST_EXCHANGES" = some (.int 5 t)
section
variable {P : Program} {w : World} {K : PySem.W.Frag} {mg : Str → Option Value} {base : Heap} {c f : Nat → Addr} {fd : Nat → FuncData}
theorem ok_law {h fr fs : Addr} {hd rd sd : FuncData} (F : Fun K "law" "law" sLaw h hd) (B : Blt mg) (E : Errs K mg c f fd) (T : Told mg)
    (hs : (base.get? sysModules).isSome = true)
    (mR : mg "_law_right" = some (.ref fr)) (kR : PySem.W.keepIn K (.ref fr) = true) (bR : Binds K rd ["_law_spring_here"] []) (GR : FnG P w K mg base CX0 5 fr rd ["_law_spring_here"] spRight)
    (mS : mg "_law_spring" = some (.ref fs)) (kS : PySem.W.keepIn K (.ref fs) = true) (bS : Binds K sd ["_law_cells", "_law_k"] []) (GS : FnOk P w K mg base CX0 5 fs sd ["_law_cells", "_law_k"] (spSpring K)) :
    FnG P w K mg base CX0 6 h hd ["_law_script"] (spLaw K) := by
  obtain ⟨t_MOST_PLATES, m_MOST_PLATES⟩ := T.most_plates
  obtain ⟨t_MOST_AWAY, m_MOST_AWAY⟩ := T.most_away
  obtain ⟨t_MOST_DAYS, m_MOST_DAYS⟩ := T.most_days
  obtain ⟨t_MOST_TAKEN, m_MOST_TAKEN⟩ := T.most_taken
  obtain ⟨t_MOST_UNDER, m_MOST_UNDER⟩ := T.most_under
  obtain ⟨t_MOST_SEEN, m_MOST_SEEN⟩ := T.most_seen
  obtain ⟨t_MOST_EXCHANGES, m_MOST_EXCHANGES⟩ := T.most_exchanges
  refine okG F scLaw (fun vs H Q E h => ?_) (fun cdv A outer s H vs Q E' st hr h => ?_)
  · obtain ⟨a, ns, rfl, _⟩ := h
    rfl
  · obtain ⟨a, ns, rfl, hS, hlen, k⟩ := h
    have hu : A.units + 3 + 64 < cLine := hr.units
    refine ⟨_, (pss_cons (ps_set (i := 1) scLaw.nd rfl (.inl rfl) (pe_lst (pa_cons (pe_glob (v := .int 10) (by rfl) m_MOST_PLATES ⟨_, rfl⟩) (pa_cons (pe_glob (v := .int 2) (by rfl) m_MOST_AWAY ⟨_, rfl⟩) (pa_cons (pe_glob (v := .int 6) (by rfl) m_MOST_DAYS ⟨_, rfl⟩) (pa_cons (pe_glob (v := .int 6) (by rfl) m_MOST_TAKEN ⟨_, rfl⟩) (pa_cons (pe_glob (v := .int 9) (by rfl) m_MOST_UNDER ⟨_, rfl⟩) (pa_cons (pe_glob (v := .int 5) (by rfl) m_MOST_SEEN ⟨_, rfl⟩) (pa_cons (pe_glob (v := .int 5) (by rfl) m_MOST_EXCHANGES ⟨_, rfl⟩) pa_nil)))))))))
      (pss_cons (ps_if (pt_cmpR op_ne (pe_callB (call_reprD st hu hs) (by rfl) B.repr bRepr (pa_cons (pv 1) pa_nil)) (pe_callB (call_reprD st hu hs) (by rfl) B.repr bRepr (pa_cons (pe_lst (pa_cons pe_int (pa_cons pe_int (pa_cons pe_int (pa_cons pe_int (pa_cons pe_int (pa_cons pe_int (pa_cons pe_int pa_nil)))))))) pa_nil)) (nomark _)) (pss_one (ps_ret pe_bl)) pss_nil)
      (pss_cons (ps_set (i := 2) scLaw.nd rfl (.inl rfl) (pe_lst (pa_cons (pe_callB (call_isX E.all) (by rfl) B.isi bIsi (pa_cons (pe_mkX0 (E.xc 19 (by decide)) PySem.F.excBase_ValueError E.m19 E.i19 (by rfl) E.g19) (pa_cons (pe_bltn (v := .ty "ValueError") (by rfl) E.py0 bPy0 rfl) pa_nil))) (pa_cons (pe_callB (call_isX E.all) (by rfl) B.isi bIsi (pa_cons (pe_mkX0 (E.xc 20 (by decide)) PySem.F.excBase_LookupError E.m20 E.i20 (by rfl) E.g20) (pa_cons (pe_bltn (v := .ty "LookupError") (by rfl) E.py1 bPy1 rfl) pa_nil))) pa_nil))))
      (pss_cons (ps_set (i := 2) scLaw.nd rfl (.inl rfl) (pe_op op_cat (pv 2) (pe_lst (pa_cons (pe_callB (call_isX E.all) (by rfl) B.isi bIsi (pa_cons (pe_mkX0 (E.xc 21 (by decide)) PySem.F.excBase_ArithmeticError E.m21 E.i21 (by rfl) E.g21) (pa_cons (pe_bltn (v := .ty "ArithmeticError") (by rfl) E.py2 bPy2 rfl) pa_nil))) (pa_cons (pe_callB (call_isX E.all) (by rfl) B.isi bIsi (pa_cons (pe_mkX0 (E.xc 21 (by decide)) PySem.F.excBase_ArithmeticError E.m21 E.i21 (by rfl) E.g21) (pa_cons (pe_glob (v := .ref (c 19)) (by rfl) E.g19 rfl) pa_nil))) pa_nil)))))
      (pss_cons (ps_if (pt_cmpR (op_neD hu) (pv 2) (pe_lst (pa_cons pe_bl (pa_cons pe_bl (pa_cons pe_bl (pa_cons pe_bl pa_nil))))) (nomark _)) (pss_one (ps_ret pe_bl)) pss_nil)
      (pss_one (ps_ret (pe_callB (cr_all rfl) (by rfl) B.all bAll (pa_cons (pe_lc (own := [("_law_k", 3)]) (g := gName 3) (tt := tYes) rfl scLaw.nd (pi_range1 rfl B.range (pa_cons (pe_callB (call_max2 rfl) (by rfl) B.max bMax (pa_cons pe_int (pa_cons (pe_callB (call_min2 rfl) (by rfl) B.min bMin (pa_cons (pe_callB call_len_seq (by rfl) B.len PySem.boot_len (pa_cons (pv 0) pa_nil)) (pa_cons pe_int pa_nil))) pa_nil))) pa_nil)) (blkOk_by (N := ["_law_script", "_law_told", "_law_bases", "_law_k"]) (sc := defScope sLaw) (by decide +kernel)) (fun _ _ _ _ _ => pg_name (i := 3) scLaw.nd rfl (Or.inl rfl)) (fun _ _ _ _ _ => pts_nil) (fun _ _ _ _ _ => (pe_callG GR st hr (by rfl) mR kR bR .nil pass0 (pa_cons (pe_call GS hr (by rfl) mS kS bS .nil pass0 (pa_cons (pv 0) (pa_cons (pv 3) pa_nil))) pa_nil)))) pa_nil))))))))), ?_⟩
    refine q_asgL (xs := toldW.map V.int) (el_lst (ea_cons ev_c (ea_cons ev_c (ea_cons ev_c (ea_cons ev_c (ea_cons ev_c (ea_cons ev_c (ea_cons ev_c ea_nil))))))) (Nat.le_of_ble_eq_true rfl)) fun p1 H1 n1 e1 h1 => ?_
    refine q_when (b := false) (et_is (et_test (ev_op (ev_repr (d := .list (toldW.map PyData.int)) (ev_var rfl) (.lst (.inl h1) (dats_ints toldW)) told_ok.1 (Nat.le_trans told_ok.2.1 (by decide)) told_ok.2.2)
      (ev_reprR (d := .list (toldW.map PyData.int)) (fun H9 e9 Q9 q9 => el_lst (vs := toldW.map V.int) (ea_cons ev_c (ea_cons ev_c (ea_cons ev_c (ea_cons ev_c (ea_cons ev_c (ea_cons ev_c (ea_cons ev_c ea_nil))))))) (Nat.le_of_ble_eq_true rfl) H9 e9 Q9 fun p H8 _ e8 h8 => q9 (.ref p) H8 e8 (.lst (.inl h8) (dats_ints toldW)))
        told_ok.1 (Nat.le_trans told_ok.2.1 (by decide)) told_ok.2.2) (rv_ne rfl))) ?_) (fun z => nomatch z) fun _ H2 e2 => ?_
    · simp
    refine q_asgL (xs := [true, true].map V.bl) (el_lst (ea_cons (ev_isNew er_mk0 ev_c (.ty _) (E.xc 19 (by decide)) (E.kp0 19 (by decide))) (ea_cons (ev_isNew er_mk0 ev_c (.ty _) (E.xc 20 (by decide)) (E.kp1 20 (by decide))) ea_nil)) (Nat.le_of_ble_eq_true rfl)) fun p3 H3 n3 e3 h3 => ?_
    refine q_asgL (xs := [true, true, true, false].map V.bl) (el_cat (ev_var rfl) h3 (el_lst (ea_cons (ev_isNew er_mk0 ev_c (.ty _) (E.xc 21 (by decide)) (E.kp2 21 (by decide))) (ea_cons (ev_isNew er_mk0 ev_c (.own _) (E.xc 21 (by decide)) (E.kt 21 19 (by decide) (by decide))) ea_nil)) (Nat.le_of_ble_eq_true rfl)) (Nat.le_of_ble_eq_true rfl)) fun p4 H4 n4 e4 h4 => ?_
    refine q_when (b := false) (et_is (et_test (ev_neDL (d := .list ([true, true, true, false].map PyData.bool)) (e := .list ([true, true, true, false].map PyData.bool)) (ev_var rfl) (el_lst (vs := [true, true, true, false].map V.bl) (ea_cons ev_c (ea_cons ev_c (ea_cons ev_c (ea_cons ev_c ea_nil)))) (Nat.le_of_ble_eq_true rfl)) (Dp.bools h4) (fun H9 p _ hp => Dp.bools hp) (by decide +kernel) (by decide +kernel))) (by decide +kernel)) (fun z => nomatch z) fun _ H5 e5 => ?_
    have hS5 : SqL K H5 a (ns.map V.int) := ex_l ((((e1.trans e2).trans e3).trans e4).trans e5) hS
    have len : ((ns.map V.int).length : Int) ≤ 63 := by rw [List.length_map]; omega
    obtain ⟨n, hn, hb⟩ : ∃ n : Int, (if (if (4 : Int) < ((ns.map V.int).length : Int) then (4 : Int) else ((ns.map V.int).length : Int)) > 2 then (if (4 : Int) < ((ns.map V.int).length : Int) then (4 : Int) else ((ns.map V.int).length : Int)) else 2) = n ∧ 0 ≤ n ∧ n ≤ 4 := by
      refine ⟨_, rfl, ?_⟩
      split <;> split <;> omega
    have arg : EvA (tCons (tCB rMax2 (tCons (tC (.int 2)) (tCons (tCB rMin2 (tCons (tCB (rLenS K) (tCons (tVar 0) tNil)) (tCons (tC (.int 4)) tNil))) tNil))) tNil)
        [some (.ref a), some (.ref p1), some (.ref p4), none] H5 [.int n] := by
      rw [← hn]
      exact ea_cons (ev_max2 ev_c (ev_min2 (ev_len (ev_var rfl) hS5) ev_c)) ea_nil
    refine s_ret (v := .bl true) (ev_is (ev_allL (bs := List.replicate n.toNat true) (el_is (el_lcR1 (n := n) (fun _ => true) (fun _ => .bl true) arg ⟨hb.1, by omega⟩ (fun _ => rfl) (fun _ _ _ _ => ev_yes) (fun i H8 e8 hi _ => ?_)) (given_const _))) (by rw [all_true])) fun H9 _ => k H9
    intro H7 e7 Q7 q7
    refine ⟨.ref a, rfl, .int (i : Int), rfl, a, ns, i, rfl, ex_l (e8.trans e7) hS5, by omega, by omega, fun p H6 hp e6 sp => ⟨p, rfl, sp, fun H' but => q7 H' (fun b o e => but b o ?_ (e6 b o e))⟩⟩
    rintro rfl
    rw [hp] at e
    cases e
end
end PW
namespace PW
open PySem PySem.Spec PyProof.Rows L2 Evl
/-! ### what the top has written -/
def isB (o : Option (Option Value)) (s : String) : Bool := match o with | some (some (.builtin t)) => t == s | _ => false
theorem of_isB {o : Option (Option Value)} {s : String} (h : isB o s = true) : o = some (some (.builtin s)) := by
  unfold isB at h
  split at h
  · rw [beq_iff_eq.mp h]
  · cases h
def isN (o : Option (Option Value)) : Bool := match o with | some none => true | _ => false
theorem of_isN {o : Option (Option Value)} (h : isN o = true) : o = some none := by
  unfold isN at h
  split at h
  · rfl
  · cases h
def isR (o : Option (Option Value)) (a : Addr) : Bool := match o with | some (some (.ref b)) => b == a | _ => false
theorem of_isR {o : Option (Option Value)} {a : Addr} (h : isR o a = true) : o = some (some (.ref a)) := by
  unfold isR at h
  split at h
  · rw [beq_iff_eq.mp h]
  · cases h
def isI (o : Option (Option Value)) (i : Int) : Bool := match o with | some (some (.int j _)) => j == i | _ => false
theorem of_isI {o : Option (Option Value)} {i : Int} (h : isI o i = true) : ∃ t, o = some (some (.int i t)) := by
  unfold isI at h
  split at h
  · rename_i j t
    rw [beq_iff_eq.mp h]
    exact ⟨t, rfl⟩
  · cases h
def isT (o : Option Value) (s : String) : Bool := match o with | some (.type t) => t == s | _ => false
theorem of_isT {o : Option Value} {s : String} (h : isT o s = true) : o = some (.type s) := by
  unfold isT at h
  split at h
  · rw [beq_iff_eq.mp h]
  · cases h
theorem all_range {n : Nat} {p : Nat → Bool} (h : (List.range n).all p = true) (i : Nat) (hi : i < n) : p i = true :=
  List.all_eq_true.mp h i (List.mem_range.mpr hi)
def pyW (b : Nat) : String := ["ValueError", "LookupError", "ArithmeticError"].getD b ""
def newW (b : Nat) : String := ["ValueError.__new__", "LookupError.__new__", "ArithmeticError.__new__"].getD b ""
def iniW (b : Nat) : String := ["ValueError.__init__", "LookupError.__init__", "ArithmeticError.__init__"].getD b ""
def bmW (b : Nat) : List Value := [[.type "ValueError", .type "Exception", .type "BaseException", .type "object"], [.type "LookupError", .type "Exception", .type "BaseException", .type "object"], [.type "ArithmeticError", .type "Exception", .type "BaseException", .type "object"]].getD b []
def cW (i : Nat) : Addr := [44, 63, 82, 101, 120, 139, 158, 177, 196, 215, 234, 253, 285, 304, 336, 355, 374, 393, 405, 24, 265, 316].getD i 0
def fW (i : Nat) : Addr := [41, 60, 79, 98, 117, 136, 155, 174, 193, 212, 231, 250, 282, 301, 333, 352, 371, 390].getD i 0
def caW (i : Nat) : Addr := [449, 456, 435, 442].getD i 0
def nmW (i : Nat) : Str := (["InvalidText", "InvalidNumber", "InvalidPlate", "InvalidName", "InvalidWish", "NotARule", "InvalidRows", "InvalidChoices", "InvalidTakes", "InvalidSeen", "InvalidExchanges", "InvalidWishes", "UnknownName", "InUse", "NotLet", "NotRound", "RunsOut", "Broken", "NothingToUndo", "WrongValue", "WrongName", "NoAnswer"] : List Str).getD i ""
def frW (i : Nat) : Str := (["len", "int", "abs", "divmod", "repr", "isinstance", "all", "range", "max", "min", "ValueError", "LookupError", "ArithmeticError"] : List Str).getD i ""
def toldN (i : Nat) : Str := (["MOST_PLATES", "MOST_AWAY", "MOST_DAYS", "MOST_TAKEN", "MOST_UNDER", "MOST_SEEN", "MOST_EXCHANGES"] : List Str).getD i ""
def lnW (i : Nat) : Str := (["_law_spring", "_law_draw", "_law_of", "_law_error", "_law_field", "_law_odd", "_law_errors", "_law_right", "law"] : List Str).getD i ""
def laW (i : Nat) : Addr := [414, 421, 428, 435, 442, 449, 456, 461, 466].getD i 0
def xcOk (K : PySem.W.Frag) (C : Addr) (bm : List Value) (nid : String) : Bool :=
  PySem.W.excInitIn K C bm nid && (PySem.W.excOver K C bm && (isB (PySem.W.findIn K (.ref C) "__setattr__") "object.__setattr__" &&
  (isB (PySem.W.findIn K (.ref C) "__getattribute__") "BaseException.__getattribute__" && (isN (PySem.W.findIn K (.ref C) "__getattr__") &&
  (PySem.W.subIn K (.ref C) (.type "BaseException") == some true && (PySem.W.keepIn K (.ref C) && (PySem.W.hasDictIn K C &&
  ((PySem.W.clsIn K C).isSome && (isB (PySem.W.findIn K (.ref C) "__class__") "object.__class__" && PySem.W.mroIn K C (.type "object") == some true)))))))))
theorem xc_of {K : PySem.W.Frag} {C : Addr} {B n i : String} {bm : List Value} (bf : ExcBaseFacts B n i bm) (sf : PySem.StoreFacts B bm "object.__setattr__" "object")
    (h : xcOk K C bm n = true) : XC K C := by
  unfold xcOk at h
  simp only [Bool.and_eq_true] at h
  obtain ⟨h1, h2, h3, h4, h5, h6, h7, h8, h9, h10, h11⟩ := h
  exact ⟨⟨B, n, i, bm, bf, sf, h1, h2⟩, of_isB h3, of_isB h4, of_isN h5, beq_iff_eq.mp h6, h7, h8, h9, of_isB h10, beq_iff_eq.mp h11⟩
theorem base_lt : ∀ i, i < 22 → baseW i < 3 := by decide +kernel
theorem base_facts : ∀ b, b < 3 → ExcBaseFacts (pyW b) (newW b) (iniW b) (bmW b) ∧ PySem.StoreFacts (pyW b) (bmW b) "object.__setattr__" "object"
  | 0, _ => ⟨PySem.F.excBase_ValueError, PySem.F.store_ValueError⟩
  | 1, _ => ⟨PySem.F.excBase_LookupError, PySem.F.store_LookupError⟩
  | 2, _ => ⟨PySem.F.excBase_ArithmeticError, PySem.F.store_ArithmeticError⟩
  | n + 3, h => absurd h (by omega)
def tabA (K : PySem.W.Frag) : Bool := (List.range 22).all fun i => xcOk K (cW i) (bmW (baseW i)) (newW (baseW i))
def tabB (K : PySem.W.Frag) : Bool := (List.range 22).all fun i => (List.range 25).all fun j => PySem.W.kitOne K (.ref (cW i)) (if j < 22 then .ref (cW j) else .type (pyW (j - 22))) == some (kitW i j)
def tabC (K : PySem.W.Frag) : Bool := (List.range 22).all fun i => isR (PySem.W.nsIn K mainGlobals (nmW i)) (cW i)
def tabD (K : PySem.W.Frag) : Bool := (List.range 18).all fun i => isR (PySem.W.findIn K (.ref (cW i)) "__init__") (fW i) && isT (PySem.W.typeIn K (.ref (fW i))) "function"
def tabE (K : PySem.W.Frag) : Bool := (List.range 18).all fun i => isN (PySem.W.findIn K (.ref (cW i)) "given") && (isN (PySem.W.findIn K (.ref (cW i)) "index") && isN (PySem.W.findIn K (.ref (cW i)) "shown"))
def tabF (K : PySem.W.Frag) : Bool := (List.range 13).all fun i => isN (PySem.W.nsIn K mainGlobals (frW i))
def tabG (K : PySem.W.Frag) : Bool := (List.range 7).all fun i => isI (PySem.W.nsIn K mainGlobals (toldN i)) (toldW.getD i 0)
def tabH (K : PySem.W.Frag) : Bool := (List.range 9).all fun i => isR (PySem.W.nsIn K mainGlobals (lnW i)) (laW i) && PySem.W.keepIn K (.ref (laW i))
def tabI (K : PySem.W.Frag) : Bool := isB (PySem.W.specialIn K (.builtin "object.__class__") "__get__") "getset_descriptor.__get__" && PySem.W.takesIn K (.builtin "object.__class__") == some true
def tabJ (K : PySem.W.Frag) : Bool := (List.range 4).all fun i => isB (PySem.W.findIn K (.ref (cW (i + 18))) "__init__") (iniW (baseW (i + 18)))
section
variable {K : PySem.W.Frag} {fd : FuncData} {f : Addr}
theorem binds_law_spring (F : Fun K "_law_spring" "_law_spring" sSpring f fd) : Binds K fd ["_law_cells", "_law_k"] [] := F.binds (ps := ["_law_cells", "_law_k"]) fun _ _ _ _ _ _ us hl => match us, hl with | [_, _], _ => rfl
theorem binds_law_draw (F : Fun K "_law_draw" "_law_draw" sDraw f fd) : Binds K fd ["_law_spring_here", "_law_size"] [] := F.binds (ps := ["_law_spring_here", "_law_size"]) fun _ _ _ _ _ _ us hl => match us, hl with | [_, _], _ => rfl
theorem binds_law_of (F : Fun K "_law_of" "_law_of" sOf f fd) : Binds K fd ["_law_spring_here", "_law_menu"] [] := F.binds (ps := ["_law_spring_here", "_law_menu"]) fun _ _ _ _ _ _ us hl => match us, hl with | [_, _], _ => rfl
theorem binds_law_error (F : Fun K "_law_error" "_law_error" sError f fd) : Binds K fd ["_law_e"] [] := F.binds (ps := ["_law_e"]) fun _ _ _ _ _ _ us hl => match us, hl with | [_], _ => rfl
theorem binds_law_field (F : Fun K "_law_field" "_law_field" sField f fd) : Binds K fd ["_law_e", "_law_word_now"] [] := F.binds (ps := ["_law_e", "_law_word_now"]) fun _ _ _ _ _ _ us hl => match us, hl with | [_, _], _ => rfl
theorem binds_law_odd (F : Fun K "_law_odd" "_law_odd" sOdd f fd) : Binds K fd ["_law_spring_here"] [] := F.binds (ps := ["_law_spring_here"]) fun _ _ _ _ _ _ us hl => match us, hl with | [_], _ => rfl
theorem binds_law_errors (F : Fun K "_law_errors" "_law_errors" sErrors f fd) : Binds K fd ["_law_thing"] [] := F.binds (ps := ["_law_thing"]) fun _ _ _ _ _ _ us hl => match us, hl with | [_], _ => rfl
theorem binds_law_right (F : Fun K "_law_right" "_law_right" sRight f fd) : Binds K fd ["_law_spring_here"] [] := F.binds (ps := ["_law_spring_here"]) fun _ _ _ _ _ _ us hl => match us, hl with | [_], _ => rfl
theorem binds_law (F : Fun K "law" "law" sLaw f fd) : Binds K fd ["_law_script"] [] := F.binds (ps := ["_law_script"]) fun _ _ _ _ _ _ us hl => match us, hl with | [_], _ => rfl
theorem bind_script (F : Fun K "law" "law" sLaw f fd) (s : Shared) (u : Value) : BindsTo s fd ⟨[u], []⟩ [("_law_script", u)] := by
  obtain ⟨_, _, _, _, _, _, _, _, _, rfl, _, _⟩ := F.ex
  exact .of_eq rfl
theorem and1 {a b : Bool} (h : (a && b) = true) : a = true := (Bool.and_eq_true_iff.mp h).1
theorem and2 {a b : Bool} (h : (a && b) = true) : b = true := (Bool.and_eq_true_iff.mp h).2
end
theorem all_mk {l : PySem.W.OpenLaw} {w : World} {K : PySem.W.Frag} {h : Heap} {mg : Str → Option Value} {fa : Addr} (X : K.In h) (G : h.Ns mainGlobals mg) (hfa : mg "law" = some (.ref fa))
    (tA : tabA K = true) (tB : tabB K = true) (tC : tabC K = true) (tD : tabD K = true) (tE : tabE K = true) (tF : tabF K = true) (tG : tabG K = true) (tH : tabH K = true) (tI : tabI K = true) (tJ : tabJ K = true)
    (F0 : ∃ fd, Fun K "__init__" "InvalidText.__init__" sIni0 41 fd)
    (F1 : ∃ fd, Fun K "__init__" "InvalidNumber.__init__" sIni1 60 fd)
    (F2 : ∃ fd, Fun K "__init__" "InvalidPlate.__init__" sIni2 79 fd)
    (F3 : ∃ fd, Fun K "__init__" "InvalidName.__init__" sIni3 98 fd)
    (F4 : ∃ fd, Fun K "__init__" "InvalidWish.__init__" sIni4 117 fd)
    (F5 : ∃ fd, Fun K "__init__" "NotARule.__init__" sIni5 136 fd)
    (F6 : ∃ fd, Fun K "__init__" "InvalidRows.__init__" sIni6 155 fd)
    (F7 : ∃ fd, Fun K "__init__" "InvalidChoices.__init__" sIni7 174 fd)
    (F8 : ∃ fd, Fun K "__init__" "InvalidTakes.__init__" sIni8 193 fd)
    (F9 : ∃ fd, Fun K "__init__" "InvalidSeen.__init__" sIni9 212 fd)
    (F10 : ∃ fd, Fun K "__init__" "InvalidExchanges.__init__" sIni10 231 fd)
    (F11 : ∃ fd, Fun K "__init__" "InvalidWishes.__init__" sIni11 250 fd)
    (F12 : ∃ fd, Fun K "__init__" "UnknownName.__init__" sIni12 282 fd)
    (F13 : ∃ fd, Fun K "__init__" "InUse.__init__" sIni13 301 fd)
    (F14 : ∃ fd, Fun K "__init__" "NotLet.__init__" sIni14 333 fd)
    (F15 : ∃ fd, Fun K "__init__" "NotRound.__init__" sIni15 352 fd)
    (F16 : ∃ fd, Fun K "__init__" "RunsOut.__init__" sIni16 371 fd)
    (F17 : ∃ fd, Fun K "__init__" "Broken.__init__" sIni17 390 fd)
    (L_law_spring : ∃ fd, Fun K "_law_spring" "_law_spring" sSpring 414 fd)
    (L_law_draw : ∃ fd, Fun K "_law_draw" "_law_draw" sDraw 421 fd)
    (L_law_of : ∃ fd, Fun K "_law_of" "_law_of" sOf 428 fd)
    (L_law_error : ∃ fd, Fun K "_law_error" "_law_error" sError 435 fd)
    (L_law_field : ∃ fd, Fun K "_law_field" "_law_field" sField 442 fd)
    (L_law_odd : ∃ fd, Fun K "_law_odd" "_law_odd" sOdd 449 fd)
    (L_law_errors : ∃ fd, Fun K "_law_errors" "_law_errors" sErrors 456 fd)
    (L_law_right : ∃ fd, Fun K "_law_right" "_law_right" sRight 461 fd)
    (L_law : ∃ fd, Fun K "law" "law" sLaw 466 fd) :
    ∃ fd : FuncData, (∀ (s : Shared) (u : Value), BindsTo s fd ⟨[u], []⟩ [("_law_script", u)]) ∧
      ∀ base : Heap, K.In base → base.Ns mainGlobals mg → (base.get? sysModules).isSome = true → FnG l.prog w K mg base CX0 6 fa fd ["_law_script"] (spLaw K) := by
  obtain ⟨fd0, F0⟩ := F0
  obtain ⟨fd1, F1⟩ := F1
  obtain ⟨fd2, F2⟩ := F2
  obtain ⟨fd3, F3⟩ := F3
  obtain ⟨fd4, F4⟩ := F4
  obtain ⟨fd5, F5⟩ := F5
  obtain ⟨fd6, F6⟩ := F6
  obtain ⟨fd7, F7⟩ := F7
  obtain ⟨fd8, F8⟩ := F8
  obtain ⟨fd9, F9⟩ := F9
  obtain ⟨fd10, F10⟩ := F10
  obtain ⟨fd11, F11⟩ := F11
  obtain ⟨fd12, F12⟩ := F12
  obtain ⟨fd13, F13⟩ := F13
  obtain ⟨fd14, F14⟩ := F14
  obtain ⟨fd15, F15⟩ := F15
  obtain ⟨fd16, F16⟩ := F16
  obtain ⟨fd17, F17⟩ := F17
  obtain ⟨d_law_spring, L_law_spring⟩ := L_law_spring
  obtain ⟨d_law_draw, L_law_draw⟩ := L_law_draw
  obtain ⟨d_law_of, L_law_of⟩ := L_law_of
  obtain ⟨d_law_error, L_law_error⟩ := L_law_error
  obtain ⟨d_law_field, L_law_field⟩ := L_law_field
  obtain ⟨d_law_odd, L_law_odd⟩ := L_law_odd
  obtain ⟨d_law_errors, L_law_errors⟩ := L_law_errors
  obtain ⟨d_law_right, L_law_right⟩ := L_law_right
  obtain ⟨d_law, L_law⟩ := L_law
  have nm : ∀ i, i < 22 → mg (nmW i) = some (.ref (cW i)) := fun i hi => PySem.W.mg_of X G (of_isR (all_range tC i hi))
  have fr : ∀ i, i < 13 → mg (frW i) = none := fun i hi => PySem.W.mg_none_of X G (of_isN (all_range tF i hi))
  have tl : ∀ i, i < 7 → ∃ t, mg (toldN i) = some (.int (toldW.getD i 0) t) := fun i hi => (of_isI (all_range tG i hi)).imp fun t e => PySem.W.mg_of X G e
  have ln : ∀ i, i < 9 → mg (lnW i) = some (.ref (laW i)) := fun i hi => PySem.W.mg_of X G (of_isR (and1 (all_range tH i hi)))
  have lk : ∀ i, i < 9 → PySem.W.keepIn K (.ref (laW i)) = true := fun i hi => and2 (all_range tH i hi)
  have e := hfa.symm.trans (ln 8 (by decide))
  have e : fa = 466 := Value.ref.inj (Option.some.inj e)
  subst e
  have B : Blt mg := ⟨fr 0 (by decide), fr 1 (by decide), fr 2 (by decide), fr 3 (by decide), fr 4 (by decide), fr 5 (by decide), fr 6 (by decide), fr 7 (by decide), fr 8 (by decide), fr 9 (by decide)⟩
  have T : Told mg := ⟨tl 0 (by decide), tl 1 (by decide), tl 2 (by decide), tl 3 (by decide), tl 4 (by decide), tl 5 (by decide), tl 6 (by decide)⟩
  have ini : ∀ i, i < 18 → PySem.W.findIn K (.ref (cW i)) "__init__" = some (some (.ref (fW i))) := fun i hi => of_isR (and1 (all_range tD i hi))
  have tyf : ∀ i, i < 18 → PySem.W.typeIn K (.ref (fW i)) = some (.type "function") := fun i hi => of_isT (and2 (all_range tD i hi))
  have ng : ∀ i, i < 18 → PySem.W.findIn K (.ref (cW i)) "given" = some none := fun i hi => of_isN (and1 (all_range tE i hi))
  have ni : ∀ i, i < 18 → PySem.W.findIn K (.ref (cW i)) "index" = some none := fun i hi => of_isN (and1 (and2 (all_range tE i hi)))
  have ns : ∀ i, i < 18 → PySem.W.findIn K (.ref (cW i)) "shown" = some none := fun i hi => of_isN (and2 (and2 (all_range tE i hi)))
  have xo : ∀ i, i < 22 → xcOk K (cW i) (bmW (baseW i)) (newW (baseW i)) = true := fun i hi => all_range tA i hi
  have kk : ∀ i j, i < 22 → j < 25 → PySem.W.kitOne K (.ref (cW i)) (if j < 22 then .ref (cW j) else .type (pyW (j - 22))) = some (kitW i j) := fun i j hi hj => beq_iff_eq.mp (all_range (all_range tB i hi) j hj)
  have kt : ∀ i j, i < 22 → j < 22 → PySem.W.kitOne K (.ref (cW i)) (.ref (cW j)) = some (kitW i j) := fun i j hi hj => by
    have z := kk i j hi (by omega)
    rwa [if_pos hj] at z
  have ib : ∀ i, i < 4 → PySem.W.findIn K (.ref (cW (i + 18))) "__init__" = some (some (.builtin (iniW (baseW (i + 18))))) := fun i hi => of_isB (all_range tJ i hi)
  have E : Errs K mg cW fW (fun i => [fd0, fd1, fd2, fd3, fd4, fd5, fd6, fd7, fd8, fd9, fd10, fd11, fd12, fd13, fd14, fd15, fd16, fd17].getD i fd0) := {
    all := ⟨of_isB (and1 tI), beq_iff_eq.mp (and2 tI)⟩,
    xc := fun i hi => xc_of (base_facts _ (base_lt i hi)).1 (base_facts _ (base_lt i hi)).2 (xo i hi),
    kt := kt,
    kp0 := fun i hi => kk i 22 hi (by decide),
    kp1 := fun i hi => kk i 23 hi (by decide),
    kp2 := fun i hi => kk i 24 hi (by decide),
    py0 := fr 10 (by decide),
    py1 := fr 11 (by decide),
    py2 := fr 12 (by decide),
    g0 := nm 0 (by decide),
    g1 := nm 1 (by decide),
    g2 := nm 2 (by decide),
    g3 := nm 3 (by decide),
    g4 := nm 4 (by decide),
    g5 := nm 5 (by decide),
    g6 := nm 6 (by decide),
    g7 := nm 7 (by decide),
    g8 := nm 8 (by decide),
    g9 := nm 9 (by decide),
    g10 := nm 10 (by decide),
    g11 := nm 11 (by decide),
    g12 := nm 12 (by decide),
    g13 := nm 13 (by decide),
    g14 := nm 14 (by decide),
    g15 := nm 15 (by decide),
    g16 := nm 16 (by decide),
    g17 := nm 17 (by decide),
    g18 := nm 18 (by decide),
    g19 := nm 19 (by decide),
    g20 := nm 20 (by decide),
    g21 := nm 21 (by decide),
    i0 := ini 0 (by decide),
    t0 := tyf 0 (by decide),
    F0 := F0,
    n0g := ng 0 (by decide),
    i1 := ini 1 (by decide),
    t1 := tyf 1 (by decide),
    F1 := F1,
    n1g := ng 1 (by decide),
    i2 := ini 2 (by decide),
    t2 := tyf 2 (by decide),
    F2 := F2,
    n2g := ng 2 (by decide),
    i3 := ini 3 (by decide),
    t3 := tyf 3 (by decide),
    F3 := F3,
    n3g := ng 3 (by decide),
    i4 := ini 4 (by decide),
    t4 := tyf 4 (by decide),
    F4 := F4,
    n4g := ng 4 (by decide),
    i5 := ini 5 (by decide),
    t5 := tyf 5 (by decide),
    F5 := F5,
    n5g := ng 5 (by decide),
    i6 := ini 6 (by decide),
    t6 := tyf 6 (by decide),
    F6 := F6,
    n6i := ni 6 (by decide),
    i7 := ini 7 (by decide),
    t7 := tyf 7 (by decide),
    F7 := F7,
    n7i := ni 7 (by decide),
    i8 := ini 8 (by decide),
    t8 := tyf 8 (by decide),
    F8 := F8,
    n8i := ni 8 (by decide),
    i9 := ini 9 (by decide),
    t9 := tyf 9 (by decide),
    F9 := F9,
    n9i := ni 9 (by decide),
    i10 := ini 10 (by decide),
    t10 := tyf 10 (by decide),
    F10 := F10,
    n10i := ni 10 (by decide),
    i11 := ini 11 (by decide),
    t11 := tyf 11 (by decide),
    F11 := F11,
    n11i := ni 11 (by decide),
    i12 := ini 12 (by decide),
    t12 := tyf 12 (by decide),
    F12 := F12,
    n12g := ng 12 (by decide),
    i13 := ini 13 (by decide),
    t13 := tyf 13 (by decide),
    F13 := F13,
    n13i := ni 13 (by decide),
    i14 := ini 14 (by decide),
    t14 := tyf 14 (by decide),
    F14 := F14,
    n14g := ng 14 (by decide),
    i15 := ini 15 (by decide),
    t15 := tyf 15 (by decide),
    F15 := F15,
    n15g := ng 15 (by decide),
    i16 := ini 16 (by decide),
    t16 := tyf 16 (by decide),
    F16 := F16,
    n16s := ns 16 (by decide),
    i17 := ini 17 (by decide),
    t17 := tyf 17 (by decide),
    F17 := F17,
    n17i := ni 17 (by decide),
    n17s := ns 17 (by decide),
    i18 := ib 0 (by decide),
    m18 := and1 (xo 18 (by decide)),
    i19 := ib 1 (by decide),
    m19 := and1 (xo 19 (by decide)),
    i20 := ib 2 (by decide),
    m20 := and1 (xo 20 (by decide)),
    i21 := ib 3 (by decide),
    m21 := and1 (xo 21 (by decide)) }
  have Z : Calls K mg caW (fun i => [d_law_odd, d_law_errors, d_law_error, d_law_field].getD i d_law_odd) := ⟨ln 5 (by decide), lk 5 (by decide), binds_law_odd L_law_odd, ln 6 (by decide), lk 6 (by decide), binds_law_errors L_law_errors, ln 3 (by decide), lk 3 (by decide), binds_law_error L_law_error, ln 4 (by decide), lk 4 (by decide), binds_law_field L_law_field⟩
  refine ⟨d_law, bind_script L_law, fun base _ _ hs => ?_⟩
  have g0 : FnOk l.prog w K mg base CX0 4 449 d_law_odd ["_law_spring_here"] spOdd := ok_odd (j := 1) L_law_odd (ok_of (j := 1) L_law_of B L_law_draw (binds_law_draw L_law_draw) (ln 1 (by decide))) (lk 2 (by decide)) (binds_law_of L_law_of) (ln 2 (by decide))
  have g1 : FnOk l.prog w K mg base CX0 4 456 d_law_errors ["_law_thing"] (spErrors cW) := ok_errors (j := 1) L_law_errors E
  have g2 : FnOk l.prog w K mg base CX0 4 435 d_law_error ["_law_e"] (spError K cW) := ok_error (j := 3) L_law_error B E
  have g3 : FnOk l.prog w K mg base CX0 4 442 d_law_field ["_law_e", "_law_word_now"] (spField cW) := ok_field (j := 3) L_law_field E
  have gR : FnG l.prog w K mg base CX0 5 461 d_law_right ["_law_spring_here"] spRight := ok_right L_law_right B E Z hs g0 g1 g2 g3
  have gS : FnOk l.prog w K mg base CX0 5 414 d_law_spring ["_law_cells", "_law_k"] (spSpring K) := ok_spring (j := 4) L_law_spring B
  exact ok_law L_law B E T hs (ln 7 (by decide)) (lk 7 (by decide)) (binds_law_right L_law_right) gR (ln 0 (by decide)) (lk 0 (by decide)) (binds_law_spring L_law_spring) gS
end PW
set_option maxHeartbeats 0
open PySem PySem.W PyProof.Rows
open_top PW.head1 for PySem.Challenge.rw_pileworn_k01_errors_and_limits
open PySem PySem.W PyProof.Rows
set_option maxRecDepth 100000 in
set_option maxHeartbeats 0 in
theorem PySem.Challenge.cw_pileworn_k01_errors_and_limits_holds : PySem.Challenge.rw_pileworn_k01_errors_and_limits.Holds := by
  refine PW.head1 ?_
  k_fill
  refine PW.walkG (l := PySem.Challenge.rw_pileworn_k01_errors_and_limits) (sp := fun K => PW.spLaw K) (k := 6) (x := "_law_script") rfl (by decide) rfl ?Q ⟨rfl, by decide, by decide⟩ (fun w h Y => PySem.W.kIn_of Y) ?F ?S
  case Q => kernel_rfl
  case S =>
    intro K H a ns hl _ hS
    exact ⟨a, ns, rfl, hS, hl, fun _ => rfl⟩
  case F =>
    intro w mg fa h KX G hmg
    refine' PW.all_mk KX G hmg ?tA ?tB ?tC ?tD ?tE ?tF ?tG ?tH ?tI ?tJ ?F0 ?F1 ?F2 ?F3 ?F4 ?F5 ?F6 ?F7 ?F8 ?F9 ?F10 ?F11 ?F12 ?F13 ?F14 ?F15 ?F16 ?F17 ?L_law_spring ?L_law_draw ?L_law_of ?L_law_error ?L_law_field ?L_law_odd ?L_law_errors ?L_law_right ?L_law
    (case tA => kernel_rfl)
    (case tB => kernel_rfl)
    (case tC => kernel_rfl)
    (case tD => kernel_rfl)
    (case tE => kernel_rfl)
    (case tF => kernel_rfl)
    (case tG => kernel_rfl)
    (case tH => kernel_rfl)
    (case tI => kernel_rfl)
    (case tJ => kernel_rfl)
    (case F0 => refine' ⟨_, L2.fun_mk ?l ?c ?k⟩; (case l => k_is); (case c => k_is); (case k => k_is))
    (case F1 => refine' ⟨_, L2.fun_mk ?l ?c ?k⟩; (case l => k_is); (case c => k_is); (case k => k_is))
    (case F2 => refine' ⟨_, L2.fun_mk ?l ?c ?k⟩; (case l => k_is); (case c => k_is); (case k => k_is))
    (case F3 => refine' ⟨_, L2.fun_mk ?l ?c ?k⟩; (case l => k_is); (case c => k_is); (case k => k_is))
    (case F4 => refine' ⟨_, L2.fun_mk ?l ?c ?k⟩; (case l => k_is); (case c => k_is); (case k => k_is))
    (case F5 => refine' ⟨_, L2.fun_mk ?l ?c ?k⟩; (case l => k_is); (case c => k_is); (case k => k_is))
    (case F6 => refine' ⟨_, L2.fun_mk ?l ?c ?k⟩; (case l => k_is); (case c => k_is); (case k => k_is))
    (case F7 => refine' ⟨_, L2.fun_mk ?l ?c ?k⟩; (case l => k_is); (case c => k_is); (case k => k_is))
    (case F8 => refine' ⟨_, L2.fun_mk ?l ?c ?k⟩; (case l => k_is); (case c => k_is); (case k => k_is))
    (case F9 => refine' ⟨_, L2.fun_mk ?l ?c ?k⟩; (case l => k_is); (case c => k_is); (case k => k_is))
    (case F10 => refine' ⟨_, L2.fun_mk ?l ?c ?k⟩; (case l => k_is); (case c => k_is); (case k => k_is))
    (case F11 => refine' ⟨_, L2.fun_mk ?l ?c ?k⟩; (case l => k_is); (case c => k_is); (case k => k_is))
    (case F12 => refine' ⟨_, L2.fun_mk ?l ?c ?k⟩; (case l => k_is); (case c => k_is); (case k => k_is))
    (case F13 => refine' ⟨_, L2.fun_mk ?l ?c ?k⟩; (case l => k_is); (case c => k_is); (case k => k_is))
    (case F14 => refine' ⟨_, L2.fun_mk ?l ?c ?k⟩; (case l => k_is); (case c => k_is); (case k => k_is))
    (case F15 => refine' ⟨_, L2.fun_mk ?l ?c ?k⟩; (case l => k_is); (case c => k_is); (case k => k_is))
    (case F16 => refine' ⟨_, L2.fun_mk ?l ?c ?k⟩; (case l => k_is); (case c => k_is); (case k => k_is))
    (case F17 => refine' ⟨_, L2.fun_mk ?l ?c ?k⟩; (case l => k_is); (case c => k_is); (case k => k_is))
    (case L_law_spring => refine' ⟨_, L2.fun_mk ?l ?c ?k⟩; (case l => k_is); (case c => k_is); (case k => k_is))
    (case L_law_draw => refine' ⟨_, L2.fun_mk ?l ?c ?k⟩; (case l => k_is); (case c => k_is); (case k => k_is))
    (case L_law_of => refine' ⟨_, L2.fun_mk ?l ?c ?k⟩; (case l => k_is); (case c => k_is); (case k => k_is))
    (case L_law_error => refine' ⟨_, L2.fun_mk ?l ?c ?k⟩; (case l => k_is); (case c => k_is); (case k => k_is))
    (case L_law_field => refine' ⟨_, L2.fun_mk ?l ?c ?k⟩; (case l => k_is); (case c => k_is); (case k => k_is))
    (case L_law_odd => refine' ⟨_, L2.fun_mk ?l ?c ?k⟩; (case l => k_is); (case c => k_is); (case k => k_is))
    (case L_law_errors => refine' ⟨_, L2.fun_mk ?l ?c ?k⟩; (case l => k_is); (case c => k_is); (case k => k_is))
    (case L_law_right => refine' ⟨_, L2.fun_mk ?l ?c ?k⟩; (case l => k_is); (case c => k_is); (case k => k_is))
    (case L_law => refine' ⟨_, L2.fun_mk ?l ?c ?k⟩; (case l => k_is); (case c => k_is); (case k => k_is))
