import PyProof.Rows.All
import Wide.All
import OpenK.AllK
import Wide.FinOn
import HandS.Base
import HandS.Call
import HandS.List
import HandS.Ends
import HandS.EndBits
import HandS.Words
import HandS.Wide
import HandS.Conv
import HandS.Style
import HandS.TupAny
import HandS.ForMost
import HandS.Zip
import HandS.Walk
import HandS.Evl
import HandS.Exc
import HandS.ExcOwn
import HandS.ExcInit
import HandS.ExcField
import HandS.WordsExc
import HandS.TryMany
import HandS.TupMul
import HandS.IsInst
import HandS.Gcd
import HandS.Strs
import KE.KMathGC
import KE.GoesNew
import KE.GoesMore
import KE.KExcSuper
import HandS.ClsMeth
import HandS.Lambda
import HandS.DictComp
import PySem.Challenge.RW_halftruths_k02_put_and_used
set_option Elab.async false
set_option linter.all false
set_option maxRecDepth 100000
set_option maxHeartbeats 2000000
/-! # defs whose callers stand under no guard: what repr of a tuple or a list wants -/
namespace Gd
open PySem PySem.Spec PyProof.Rows L2

/-- as FnOk, for callers under no guard -/
structure FnG (P : Program) (w : World) (K : PySem.W.Frag) (mg : Str → Option Value) (base : Heap) (CX : CXT)
    (k : Nat) (f : Addr) (fd : FuncData) (ps : List Str) (sp : Sp) : Prop where
  len : ∀ vs H Q E, sp vs H Q E → vs.length = ps.length
  run : ∀ (A : Around) (outer : List Env) (s : Shared) (H : Hp) (args : Args) (us : List Value) (vs : List V) (Q : VK) (E : XK),
    Room k A → A.guards = some [] → Env0 P w K mg base A outer s H → BindsTo s fd args (ps.zip us) → Vals vs us →
    sp vs H Q E → codeAny (model P w) A (.call (.ref f) args) (CR CX outer P w H s Q E) s

section
variable {P : Program} {w : World} {K : PySem.W.Frag} {mg : Str → Option Value} {base : Heap} {CX : CXT} {k : Nat} {f : Addr} {fd : FuncData}
  {ps : List Str} {sp : Sp}
theorem FnG.of (F : FnOk P w K mg base CX k f fd ps sp) : FnG P w K mg base CX k f fd ps sp :=
  ⟨F.len, fun A outer s H args us vs Q E hr _ => F.run A outer s H args us vs Q E hr⟩
end

section
variable {X : Cx} {CX : CXT} {k : Nat} {f : Addr} {fd : FuncData} {ps : List Str} {sp : Sp} {dvs : List V} {ds : List Value} {E : XK}
  {x : Str} {p pos : Pos} {e : Expr} {es : List Expr} {t : TA}
theorem runG {pins : List (Addr × Obj)} {σ : L2.St} {H : Hp} {s : Shared} {Q : VK} {us : List Value} {vs : List V}
    (F : FnG X.prog X.w X.K X.mg X.base CX k f fd ps sp) (hr : Room k X.A) (gd : X.A.guards = some []) (hb : Binds X.K fd ps ds)
    (hd : Vals dvs ds) (hx : Passes CX X E) (I : Inv X pins σ H s) (r : Vals vs us) (h : sp (vs ++ dvs) H Q E) :
    wpAny (model X.prog X.w) X.A (call (.ref f) us) (EP X pins σ Q) X.xe s := by
  have both : Vals (vs ++ dvs) (us ++ ds) := r.append hd
  have many : (us ++ ds).length = ps.length := both.length.symm.trans (F.len _ _ _ _ h)
  have bound := hb s us I.kIn many
  refine wpAny_call (codeAny_mono (F.run X.A X.stack s H ⟨us, []⟩ (us ++ ds) (vs ++ dvs) Q E hr gd I.env0 bound both h) ?_)
  rintro (e | fl) s' q
  · exact hx pins σ H s e s' I q
  · cases fl <;> first | exact I.after q | exact q.elim
/-- f(e, ..) -/
theorem pe_callG (F : FnG X.prog X.w X.K X.mg X.base CX k f fd ps sp) (hr : Room k X.A) (gd : X.A.guards = some []) (hg : Gl X x)
    (hm : X.mg x = some (.ref f)) (hk : PySem.W.keepIn X.K (.ref f) = true) (hb : Binds X.K fd ps ds) (hd : Vals dvs ds) (hx : Passes CX X E)
    (ha : PA X (e :: es) t) (hdb : (x == ("__debug__" : Str)) = false := by decide)
    (he : starEach (e :: es) X.env = (false, eval e X.env) :: starEach es X.env := by rfl)
    (hpl : (backTo pos (starEach es X.env)).any (·.1) = false := by rfl) :
    PE X (.Call (.Name x p) (e :: es) [] pos) (tCall sp dvs E t) := by
  constructor
  intro pins s σ H Q I h
  apply wpAny_Call_Name_kw
  apply ld_glob I hg hm _ hdb
  refine PySem.W.callWith_K (h₀ := X.base) I.ok.mod.kin hk (thn (ha.run pos pins s σ H _ I h) ?_) he hpl
  rintro us s1 ⟨vs, H1, I1, r, q⟩
  exact ⟨I1.kIn, runG F hr gd hb hd hx I1 r q⟩
end

section
variable {P : Program} {w : World} {K : PySem.W.Frag} {mg : Str → Option Value} {base : Heap}
/-- a def of the text by its body, where no guard stands around -/
theorem okG {x qual : Str} {st : Stmt} {f : Addr} {fd : FuncData} {N ps : List Str} {k : Nat} {sp : Sp} (F : Fun K x qual st f fd)
    (S : FnScope N ps (defScope st)) (len : ∀ vs H Q E, sp vs H Q E → vs.length = ps.length)
    (body : ∀ (cdv : Value) (A : Around) (outer : List Env) (s : Shared) (H : Hp) (vs : List V) (Q : VK) (E : XK),
      Room k (A.deeper (envOfC qual (defScope st) s.heap.objs.size f cdv)) →
      (A.deeper (envOfC qual (defScope st) s.heap.objs.size f cdv)).guards = some [] → sp vs H Q E →
      ∃ t, PSs (cxOf CX0 P w K mg base N qual (defScope st) f cdv A outer s H E).nox (defBody st) t ∧
        t { nx := fun _ H' => Q .non H', rt := Q } (start N vs) H) :
    FnG P w K mg base CX0 (k + 1) f fd ps sp := by
  obtain ⟨oc, od, kV, doc, pm, an, cdv, ct, osl, rfl, lk, code⟩ := F.ex
  constructor
  · exact len
  intro A outer s H args us vs Q E hr gd e0 hb r h
  have many := len _ _ _ _ h
  have KX : K.In s.heap := e0.mod.kin.keeps fun b o q => (e0.bs b o q).1
  have lim : s.heap.NoLimit := e0.mod.nolimit.keeps fun b o q => (e0.bs b o q).1
  have kinds : ∀ y ∈ ps.zip us, (defScope st).names.lookup y.1 = some .local ∨ ((defScope st).names.lookup y.1 = some .cell ∧
      ((cellsFrom (s.heap.objs.size + 1) (defScope st).names []).lookup y.1).isSome = true) := by
    rintro ⟨n, v⟩ hy
    rcases S.par n (List.of_mem_zip hy).1 with q | q
    · left; exact q
    · right; exact ⟨q, PySem.W.cellsFrom_some _ _ _ (.inl q)⟩
  refine codeAny_call_function hr.depth (KX _ _ lk) rfl S.co S.gen rfl (PySem.W.codeRec_of KX code) (hb _ _ _ _ ?_)
  refine wpAny_newFunctionEnv_cells S.kind kinds ?_
  rintro env rfl s1 x
  refine ⟨lim.keeps x.toInCall.keep, codeAny_func ?_⟩
  obtain ⟨t, ht, q⟩ := body cdv A outer s H vs Q E (hr.deeper _) (show (A.deeper _).guards = some [] from gd) h
  have I : Inv (cxOf CX0 P w K mg base N qual (defScope st) f cdv A outer s H E) [] (start N vs) H s1 := inv_start S hr.hd e0 many r x
  refine wpAny_mono (ht.nox.run [] s1 (start N vs) H _ I q) ?_ fun e s' z => z
  rintro fl s' z
  cases fl with
  | ret u =>
    obtain ⟨v, σ', H', J, rv, q⟩ := z
    exact ⟨v, H', J.os, J.bare, J.base, J.hok, rv, q⟩
  | next =>
    obtain ⟨σ', H', J, q⟩ := z
    exact ⟨V.non, H', J.os, J.bare, J.base, J.hok, rfl, q⟩
  | brk => obtain ⟨_, _, _, q⟩ := z; exact q.elim
  | cont => obtain ⟨_, _, _, q⟩ := z; exact q.elim
end

/-! ## the end: the law is called where no guard stands -/
section
open Att
theorem law_callG {P : Program} {w : World} {K : PySem.W.Frag} {mg mb : Str → Option Value} {k : Nat} {fa a : Addr} {fd : FuncData} {x : Str}
    {sp : Sp} {s : Shared} {vs : List Value} {ns : List Int}
    (KX : K.In s.heap) (hns : s.heap.Ns mainGlobals mg) (hb : s.heap.Ns builtinsNs mb) (hbb : ∀ x : Str, x ≠ "__name__" → mb x = bootBuiltins x)
    (hlim : s.heap.NoLimit) (hg : s.gens = #[]) (ha : s.heap.get? a = some { cls := .type "list", data := .seq vs.toArray })
    (hi : IntsAre vs ns) (hl : ns.length ≤ sizeLine) (hr : Room k callerA)
    (F : ∀ base : Heap, K.In base → base.Ns mainGlobals mg → FnG P w K mg base CX0 k fa fd [x] sp)
    (hbind : ∀ (s : Shared) (u : Value), BindsTo s fd ⟨[u], []⟩ [(x, u)])
    (hsp : ∀ H : Hp, Only H → SqL K H a (ns.map V.int) → sp [.ref a] H (fun v _ => v = .bl true) fun _ _ _ => False) :
    codeAny (model P w) callerA (.call (.ref fa) ⟨[.ref a], []⟩)
      (fun r s' => r = .ok (.ret (.bool true)) ∧ OldK s.heap s'.heap ∧ s'.os = s.os ∧ AllBare s'.gens) s := by
  -- over an abstract heap that knows at most the script
  have core : ∀ H : Hp, Only H → SqL K H a (ns.map V.int) → HOk P w H s.heap → (∀ b, H b ≠ none → b = a) → (H a ≠ none → K.lookup a = none) →
      codeAny (model P w) callerA (.call (.ref fa) ⟨[.ref a], []⟩)
        (fun r s' => r = .ok (.ret (.bool true)) ∧ OldK s.heap s'.heap ∧ s'.os = s.os ∧ AllBare s'.gens) s := by
    intro H only hS ok hA hK
    have free : ∀ {b : Addr} {o : Obj} {es : Array DictEntry} {ep : Nat}, s.heap.get? b = some o → o.data = .dict es ep → H b = none := by
      intro b o es ep q d
      cases z : H b with
      | none => rfl
      | some u =>
        obtain rfl : b = a := hA b (by rw [z]; exact fun y => nomatch y)
        obtain rfl : _ = o := Option.some.inj (ha.symm.trans q)
        exact nomatch d
    have ns_ : ∀ {b : Addr} {m : Str → Option Value}, s.heap.Ns b m → (hidT s.heap H).Ns b m := by
      rintro b m ⟨o, es, ep, q, d, z⟩
      exact ⟨o, es, ep, hidT_get q (free q d), d, z⟩
    have KB : K.In (hidT s.heap H) := by
      intro b o q
      refine hidT_get (KX b o q) ?_
      cases z : H b with
      | none => rfl
      | some u =>
        obtain rfl : b = a := hA b (by rw [z]; exact fun y => nomatch y)
        rw [hK (by rw [z]; exact fun y => nomatch y)] at q
        cases q
    obtain ⟨mc, l1, l2⟩ := hlim
    have M : Mod K mg (hidT s.heap H) := ⟨KB, ns_ hns, ⟨mb, ns_ hb, hbb⟩, mc, ns_ l1, l2⟩
    have e0 : Env0 P w K mg (hidT s.heap H) callerA [] s H :=
      ⟨rfl, M, fun b o q => of_hidT q, Nat.le_of_eq (hidT_size _ _), trivial, (fun b z => by cases z), ok, .of_eq hg⟩
    refine codeAny_mono ((F _ KB (ns_ hns)).run callerA [] s H ⟨[.ref a], []⟩ [.ref a] [.ref a] _ _ hr rfl e0 (hbind s (.ref a))
      (.cons rfl .nil) (hsp H only hS)) ?_
    rintro (e | fl) s' h
    · exact (show False from h).elim
    · cases fl with
      | next => exact (show False from h).elim
      | brk => exact (show False from h).elim
      | cont => exact (show False from h).elim
      | ret u =>
        obtain ⟨v, H', os, bare, un, ok', rel, q⟩ := h
        obtain rfl : v = .bl true := q
        obtain rfl : u = Value.bool true := rel
        refine ⟨rfl, OldK.of_keep ?_, os, bare⟩
        intro b o q
        cases z : H b with
        | none => exact un.keep b o q z (fun y => by cases y) (fun y => by cases y)
        | some u =>
          rcases only b with y | ⟨ob, xs, y⟩
          · rw [z] at y; cases y
          · obtain ⟨q1, _⟩ := ok b _ y
            obtain ⟨q2, _⟩ := ok' b _ (un.frzs b ob _ y)
            rw [q] at q1
            cases q1
            exact q2
  have rv := vals_ints hi
  have many := hi.length
  cases hk : K.lookup a with
  | some o =>
    have q := KX a o hk
    rw [ha] at q
    cases q
    refine core (fun _ => none) (fun _ => .inl rfl) (.inr ⟨_, vs.toArray, _, hk, rfl, rfl, rfl, ?_, by simpa using rv⟩) (fun b u z => by cases z) (fun b z => absurd rfl z)
      fun z => absurd rfl z
    rw [List.size_toArray, many]
    exact hl
  | none =>
    have at_a : ∀ {b : Addr} {u : HO}, (if b = a then some (HO.frz { cls := .type "list", data := .seq vs.toArray } (.lst (ns.map V.int))) else none) = some u →
        b = a ∧ u = .frz { cls := .type "list", data := .seq vs.toArray } (.lst (ns.map V.int)) := by
      intro b u z
      by_cases e : b = a
      · rw [if_pos e] at z
        exact ⟨e, (Option.some.inj z).symm⟩
      · rw [if_neg e] at z
        cases z
    refine core (fun b => if b = a then some (.frz { cls := .type "list", data := .seq vs.toArray } (.lst (ns.map V.int))) else none) ?_
      (.inl (.inr ⟨{ cls := .type "list", data := .seq vs.toArray }, if_pos rfl⟩)) ?_ ?_ fun _ => hk
    · intro b
      by_cases e : b = a
      · exact .inr ⟨_, _, if_pos e⟩
      · exact .inl (if_neg e)
    · intro b u z
      obtain ⟨rfl, rfl⟩ := at_a z
      exact ⟨ha, by rw [List.length_map]; exact hl, vs, _, rv, ha⟩
    · intro b z
      by_cases e : b = a
      · exact e
      · exact absurd (if_neg e) z
theorem walkG {l : PySem.W.OpenLaw} {n k : Nat} {q : Program} {loose : List Str} {XP : (Str → Option Value) → Heap → Prop} {YP : World → Heap → Prop}
    {d : DefRec} {K : Params → PySem.W.Frag} {sp : World → Sp} {x : Str}
    (hn : l.most = some n) (hn2 : n ≤ sizeLine) (hdf : d.params.defaults = []) (hr : Room k callerA)
    (hY : ∀ (w : World) (h : Heap), YP w h → (K w.params).In h)
    (F : ∀ (w : World) (mg : Str → Option Value) (fa : Addr) (h : Heap), (K w.params).In h → h.Ns mainGlobals mg → mg d.name = some (.ref fa) →
      ∃ fd : FuncData, (∀ (s : Shared) (u : Value), BindsTo s fd ⟨[u], []⟩ [(x, u)]) ∧
        ∀ base : Heap, (K w.params).In base → base.Ns mainGlobals mg → FnG l.prog w (K w.params) mg base CX0 k fa fd [x] (sp w))
    (hsp : ∀ (w : World) (H : Hp) (a : Addr) (ns : List Int), ns.length ≤ n → (∀ z ∈ ns, Builtin.Int.intBits z ≤ 1048576) → Only H →
      SqL (K w.params) H a (ns.map V.int) → sp w [.ref a] H (fun v _ => v = .bl true) fun _ _ _ => False) :
    PySem.W.WalkO q loose XP YP l.row.toRowW d [] (fun f vs => PySem.call f vs) := by
  refine attach_callB hn hdf ?_
  intro w s₀ s₁ mg mb fa o pm cd doc a vs ns G Y ho hd hcd hmg hobj hints hlen hbits hg
  obtain ⟨fd, hb, hF⟩ := F w mg fa _ (hY w _ Y) G.T.g hmg
  refine law_callG (hY w _ Y) G.T.g G.T.b G.T.builtins G.T.nolimit hg hobj hints (Nat.le_trans hlen hn2) hr hF hb ?_
  intro H only hS
  exact hsp w H a ns hlen hbits only hS
end

/-! ## repr of data -/
section
variable {X : Cx}
def rRepr (K : PySem.W.Frag) : List V → Hp → VK → Prop := fun vs H Q => ∃ v d, vs = [v] ∧ Dp K H v d ∧ d.showable = true ∧ d.hasDict = false ∧
  d.depth ≤ 150 ∧ d.shown.length ≤ sizeLine ∧ Q (.str d.shown) H
theorem call_reprD {k : Nat} (gd : X.A.guards = some []) (hr : Room k X.A) : CallR X (.builtin "repr") (rRepr X.K) := by
  intro pins s σ H vs us Q I r h
  obtain ⟨v, d, rfl, hd, sh, nd, dp, sz, q⟩ := h
  obtain ⟨u, rfl, rv⟩ : ∃ u, us = [u] ∧ RelV v u := by
    cases r with
    | cons a b =>
      cases b
      exact ⟨_, rfl, a⟩
  obtain ⟨as, rd⟩ := Dp.reads I d v u hd rv
  have room := hr.un
  have fin : ∀ h' t tk, (∀ b o, s.heap.get? b = some o → h'.get? b = some o) → EP X pins σ Q (.str d.shown t) { s with heap := h', toks := tk } := fun h' t tk keep =>
    ⟨.str d.shown, H, I.kept keep, ⟨t, rfl⟩, q⟩
  have nodict : d.hasDict = true → sysModules ∉ as := fun z => by rw [nd] at z; cases z
  by_cases hu : ∃ a, u = .ref a
  · obtain ⟨a, rfl⟩ := hu
    exact repr_of_reads' rd sh nodict gd (by omega) (fun _ _ e => e) fin sz
  · cases hd with
    | non =>
      cases rv
      refine PySem.P.repr_of_none ?_
      simp only [PyData.shown] at fin
      exact fin s.heap _ _ fun _ _ e => e
    | bl b =>
      cases rv
      refine PySem.P.repr_of_bool ?_
      simp only [PyData.shown] at fin
      exact fin s.heap _ _ fun _ _ e => e
    | int i =>
      obtain ⟨t, rfl⟩ := rv
      refine PySem.P.repr_of_int (by simpa [PyData.showable] using sh) ?_
      simp only [PyData.shown] at fin
      exact fin s.heap _ _ fun _ _ e => e
    | str x =>
      obtain ⟨t, rfl⟩ := rv
      refine PySem.P.repr_of_str ?_ (by simpa only [PyData.shown] using sz)
      simp only [PyData.shown] at fin
      exact fin s.heap _ _ fun _ _ e => e
    | lst _ _ => exact absurd ⟨_, rv⟩ hu
    | tup _ _ => exact absurd ⟨_, rv⟩ hu
end
end Gd

/-! # t[::-1] of a tuple, xs.extend(t), products of great ints -/
namespace Gd
open PySem PySem.Spec PyProof.Rows L2 HT

section
variable {prog : Program} {w : World} {A : Around} {E : Value → Shared → Prop} {s : Shared}
theorem adjust_back (n : Nat) : Builtin.Slice.sliceAdjust none none (-1) (n : Int) = ((n : Int) - 1, -1) := rfl
theorem places_back (n : Nat) : Builtin.Slice.slicePlaces ((n : Int) - 1) (-1) (-1) = n := by
  unfold Builtin.Slice.slicePlaces
  rw [if_neg (by decide)]
  by_cases h : 0 < n
  · rw [if_pos (show (n : Int) - 1 > -1 by omega)]
    show (((n : Int) - 1 - (-1) - 1) / 1 + 1).toNat = n
    rw [Int.ediv_one]
    omega
  · rw [if_neg (show ¬ (n : Int) - 1 > -1 by omega)]
    omega
theorem pick_back (xs : Array Value) : ((List.range xs.size).filterMap fun (k : Nat) => xs[((xs.size : Int) - 1 + (k : Int) * (-1)).toNat]?).toArray = xs.toList.reverse.toArray := by
  congr 1
  have e : ∀ l : List Nat, (∀ k ∈ l, k < xs.size) → (l.filterMap fun (k : Nat) => xs[((xs.size : Int) - 1 + (k : Int) * (-1)).toNat]?) = l.filterMap fun k => xs.toList.reverse[k]? := by
    intro l hl
    induction l with
    | nil => rfl
    | cons k r ih =>
      have hk := hl k List.mem_cons_self
      have e1 : ((xs.size : Int) - 1 + (k : Int) * (-1)).toNat = xs.size - 1 - k := by omega
      have e2 : xs[((xs.size : Int) - 1 + (k : Int) * (-1)).toNat]? = xs.toList.reverse[k]? := by
        rw [e1, List.getElem?_reverse (by simpa using hk)]
        simp
      rw [List.filterMap_cons, List.filterMap_cons, e2, ih fun j hj => hl j (List.mem_cons_of_mem _ hj)]
  rw [e _ fun k hk => List.mem_range.mp hk]
  have all : ∀ ys : List Value, ((List.range ys.length).filterMap fun k => ys[k]?) = ys := by
    intro ys
    induction ys with
    | nil => rfl
    | cons y r ih =>
      rw [List.length_cons, List.range_succ_eq_map, List.filterMap_cons]
      show y :: List.filterMap _ (List.map Nat.succ (List.range r.length)) = y :: r
      rw [List.filterMap_map]
      exact congrArg (y :: ·) ih
  have q := all xs.toList.reverse
  rw [List.length_reverse, Array.length_toList] at q
  exact q
theorem applied_back {sl : Addr} {vs : Value} {n : Nat} {Q : Int × Int × Nat → Shared → Prop} (hs : s.heap.IsSliceOf sl .none .none vs) (ps : IsPart vs (some (-1)))
    (h : Q ((n : Int) - 1, -1, n) s) : wpAny (model prog w) A (Builtin.Slice.sliceApplied (.ref sl) (pure (n : Int))) Q E s := by
  obtain ⟨os, hos, hcs, hds⟩ := id hs
  unfold Builtin.Slice.sliceApplied Builtin.Slice.sliceFields
  refine wpAny_bind (wpAny_bind (wpAny_field hos hds (x := .none) rfl ?_))
  refine wpAny_bind (wpAny_field hos hds (x := .none) rfl ?_)
  refine wpAny_bind (wpAny_field hos hds (x := vs) rfl ?_)
  refine wpAny_pure ?_
  refine wpAny_bind (slicePart_ ps ?_)
  show wpAny _ _ (if ((-1 : Int) == 0) = true then _ else _) _ _ s
  rw [if_neg (by decide)]
  refine wpAny_bind (slicePart_none (wpAny_bind (slicePart_none (wpAny_bind (wpAny_pure ?_)))))
  show wpAny _ _ (pure ((n : Int) - 1, (-1 : Int), Builtin.Slice.slicePlaces ((n : Int) - 1) (-1) (-1))) _ _ s
  rw [places_back]
  exact wpAny_pure h
theorem tuple_back {t sl : Addr} {items : Array Value} {vs : Value} {Q : Value → Shared → Prop} (ht : IsTup s.heap t items) (hs : s.heap.IsSliceOf sl .none .none vs)
    (ps : IsPart vs (some (-1))) (hsz : items.size ≤ sizeLine)
    (h : Q (.ref s.heap.objs.size) { s with heap := s.heap.push { cls := .type "tuple", data := .seq items.toList.reverse.toArray } }) :
    wpAny (model prog w) A (getItem (.ref t) (.ref sl)) Q E s := by
  have fit : sizeOk (.seq items.toList.reverse.toArray) := by
    show items.toList.reverse.toArray.size ≤ sizeLine
    simpa using hsz
  obtain ⟨os, hos, hcs, hds⟩ := id hs
  have hTs : s.TypeIs (.ref sl) "slice" := ⟨os, hos, hcs⟩
  unfold getItem
  try with_reducible refine wpAny_holding ?_
  first | refine wpAny_bind (wpAny_pure ?_) | skip
  refine wpAny_bind (wpAny_sequenceKey ht.typeIs (by decide) ?_)
  refine wpAny_bind (wpAny_callSpecial?_slot (name := Str.ofString "__getitem__") ht.typeIs slot_tuple_getitem
    (wpAny_call_entry slot_tuple_getitem ht.typeIs entry_tuple_getitem ?_ (args_tuple_getitem _ _)))
  show wpAny _ _ (Builtin.Tuple.tupleItemsOf (.ref t) >>= _) _ _ s
  refine wpAny_bind (tupleItemsOf_ ht (wpAny_bind (wpAny_typeOf hTs ?_)))
  rw [if_pos (by decide)]
  refine wpAny_bind (applied_back hs ps ?_)
  have no : ¬ ((((items.size : Int) - 1) == 0 && (-1 : Int) == 1 && items.size == items.size) = true) := by
    rw [show ((-1 : Int) == 1) = false from rfl, Bool.and_false, Bool.false_and]
    exact Bool.false_ne_true
  show wpAny _ _ (if (((items.size : Int) - 1) == 0 && (-1 : Int) == 1 && items.size == items.size) = true then _ else _) _ _ s
  rw [if_neg no, pick_back]
  first
    | exact wpAny_bind (m := Builtin.Tuple.tupleExact _) (wpAny_newObj_type (wpAny_pure ⟨_, rfl, wpAny_pure h⟩) fit)
    | exact wpAny_bind (wpAny_bind (m := Builtin.Tuple.tupleExact _) (wpAny_newObj_type (wpAny_pure (wpAny_pure ⟨_, rfl, wpAny_pure h⟩)) fit))
    | exact wpAny_bind (wpAny_bind (m := Builtin.Tuple.tupleExact _) (wpAny_newObj_type (wpAny_pure ⟨_, rfl, wpAny_pure h⟩) fit))
end
section
variable {X : Cx}
def tRevT (K : PySem.W.Frag) (te : TE) : TE := fun σ H Q => te σ H fun x H1 => ∃ a xs, x = .ref a ∧ SqT K H1 a xs ∧ ∀ p, H1 p = none → Q (.ref p) (upd H1 p (.tup xs.reverse))
theorem pe_revT {e : Expr} {te : TE} {k : Nat} {p1 p2 p3 pos : Pos} (he : PE X e te) :
    PE X (.Subscript e (.Slice none none (some (.UnaryOp .USub (.Constant (.int 1) k p1) p2)) p3) pos) (tRevT X.K te) := by
  constructor
  intro pins s σ H Q I h
  refine Subscript_ (thn (he.run pins s σ H _ I h) ?_)
  rintro v s1 ⟨x, H1, I1, r1, a, xs, rfl, hx, q⟩
  cases r1
  have step : PO X (some (.UnaryOp .USub (.Constant (.int 1) k p1) p2)) (tPart (tUn (rU fun i => .int (-i)) (tC (.int 1)))) := po_some (pe_un un_neg pe_int)
  refine wpAny_Slice (wpAny_of_eq (a := .none) (by first | exact evalPart_none .. | rfl) ?_)
  refine wpAny_of_eq (a := .none) (by first | exact evalPart_none .. | rfl) ?_
  refine thn (step.run pins s1 σ H1 (fun o H4 => o = some (-1) ∧ H4 = H1) I1 ⟨1, rfl, -1, rfl, rfl, rfl⟩) ?_
  rintro vs s4 ⟨o, H4, I4, ps, rfl, rfl⟩
  have I5 : Inv X pins σ H4 { s4 with heap := s4.heap.push { cls := .type "slice", data := .fields #[.none, .none, vs] } } :=
    I4.kept (t' := s4.toks) fun b ob q => Heap.get?_push_of_some _ q
  obtain ⟨its, r, ht, hz⟩ := I5.tuple hx
  have many := r.length
  show wpAny (model X.prog X.w) X.A (subscriptTail e (.Slice none none (some (.UnaryOp .USub (.Constant (.int 1) k p1) p2)) p3) (.ref a) (.ref s4.heap.objs.size))
    (EP X pins σ Q) X.xe { s4 with heap := s4.heap.push { cls := .type "slice", data := .fields #[.none, .none, vs] } }
  refine tail_any (ops := [.ref a, .ref s4.heap.objs.size]) ht.typeIs slot_tuple_getitem.lookup ?_ (by with_unfolding_all rfl)
  refine tuple_back ht (Heap.IsSliceOf.new _ _ _ vs) ps (by rw [List.size_toArray]; omega) ?_
  refine ⟨.ref _, _, I5.laid (t' := s4.toks) (o := .tup xs.reverse) (fun b ob q => Heap.get?_push_of_some _ q) (Nat.le_refl _) ?_, rfl, q _ (I5.hok.fresh (Nat.le_refl _))⟩
  exact ⟨by rw [List.length_reverse]; exact hz, its.reverse, r.reverse, ⟨_, Heap.get?_push_size _ rfl, rfl, _, rfl⟩⟩

set_option maxRecDepth 8000 in
theorem extend_tup (l : Addr) (items : Array Value) (n : Nat) (b : Addr) (items2 : Array Value) (n2 : Nat) (dd : Option Addr) (sl : Array (Option Value))
    (short : ¬(!items.isEmpty && Builtin.List.listTooLong (items.size + items2.size)) = true) (fit : items.size ≤ sizeLine)
    (fit2 : items.size + items2.size ≤ sizeLine + 1) :
    Meets (Builtin.«list.extend» ⟨[.ref l, .ref b], []⟩) (fun _ R s => s.heap.get? l = some { cls := .type "list", dict := none, data := .seq items n, slots := #[] } ∧
      s.heap.get? b = some { cls := .type "tuple", dict := dd, data := .seq items2 n2, slots := sl } ∧
      R (.ok (.ret Value.none)) { s with heap := s.heap.update l (Obj.mapSeq fun x => x ++ items2), toks := s.toks }) := by
  refine .of_wp fun prog w A R s h => ?_
  obtain ⟨hp, g, d, tk, os⟩ := s
  obtain ⟨hl, hb, h⟩ := h
  have f2 := AutoSeq1.sub_tuple_tuple
  have f3 := AutoSeq1.sub_list_list
  have f4 := AutoSeq1.sub_tuple_list
  have f5 := AutoSeq1.sub_list_tuple
  have whole : (items ++ items2).size ≤ sizeLine + 1 := by rw [Array.size_append]; exact fit2
  wp_walk using (wpAny_updateSeq hl rfl (hz := fit) (_hz' := whole)), AutoSeq1.wpAny_loadPart' hl, AutoSeq1.wpAny_loadPart' hb
  exact ⟨_, rfl, h⟩
/-- xs.extend(t), t a tuple -/
def rExtT (K : PySem.W.Frag) : V → List V → Hp → VK → Prop := fun x vs H Q => ∃ l b xs zs, x = .ref l ∧ vs = [.ref b] ∧ H l = some (.lst xs) ∧ H b = some (.tup zs) ∧
  xs.length + zs.length ≤ sizeLine ∧ Q .non (upd H l (.lst (xs ++ zs)))
theorem mt_extT : MtM X "list.extend" (rExtT X.K) := by
  intro pins s σ H x vs v us Q I rx rv h
  obtain ⟨l, b, xs, zs, rfl, rfl, hH, hB, hz, q⟩ := h
  cases rx
  obtain ⟨u, rfl, ru⟩ := rv.one
  cases ru
  obtain ⟨z, its, n, r, hl, e⟩ := I.lstM hH
  obtain ⟨z2, its2, r2, ⟨ob, ho, hc, n2, hd⟩⟩ := I.hok b _ hB
  have r2l := r2.length
  have fit : its.toArray.size + its2.toArray.size ≤ sizeLine := by
    rw [List.size_toArray, List.size_toArray]
    have := r.length
    omega
  have short : ¬ (!its.toArray.isEmpty && Builtin.List.listTooLong (its.toArray.size + its2.toArray.size)) = true := by
    rw [notLongL fit, Bool.and_false]
    exact Bool.false_ne_true
  obtain ⟨cls, dd, data, sl⟩ := ob
  simp only at hc hd
  subst hc hd
  refine call_meets F.slot_list_extend ⟨_, e, rfl⟩ F.entry_list_extend (F.args_list_extend_2 _ _)
    (extend_tup l its.toArray n b its2.toArray n2 dd sl short (by rw [List.size_toArray]; omega) (by omega)) ⟨e, ho, ?_⟩
  refine ⟨.non, _, I.lset (its' := its ++ its2) hH e (by simp) (r.append r2) ?_, rfl, q⟩
  rw [List.length_append]
  omega
/-- products of two factors of together less than a hundred million bits -/
def CMulB (i j : Int) : Prop := i.natAbs.log2 + j.natAbs.log2 < 100000000
theorem bits_le (x : Int) : Builtin.Int.intBits x ≤ x.natAbs.log2 + 1 := by
  unfold Builtin.Int.intBits
  split <;> omega
theorem CMulB.ok {i j : Int} (h : CMulB i j) : IntMulOk i j := by
  have h1 := bits_le i
  have h2 := bits_le j
  unfold CMulB at h
  intro z
  have z2 := (Bool.and_eq_true _ _ ▸ z : _ ∧ _).2
  unfold Builtin.Int.intTooBig at z2
  have z3 := of_decide_eq_true z2
  rw [show bitsLine = 134217728 by decide] at z3
  omega
theorem op_mulB : OpR X (binaryOp .Mult) (rI CMulB fun i j => .int (i * j)) := opI fun _ _ _ _ _ _ _ hc q => mul_int q hc.ok
end
end Gd

/-! # heaps but for one object; the state from which a law draws -/
namespace Gd
open PySem PySem.Spec PyProof.Rows L2

/-- all that was tracked is as it was, but for what stands at m -/
def Kp (m : Addr) (H H' : Hp) : Prop := ∀ b o, b ≠ m → H b = some o → H' b = some o
section
variable {H H1 H2 : Hp} {m p q : Addr} {o u : HO} {xs : List V}
theorem _root_.L2.Same.seqT {K : PySem.W.Frag} {H H' : Hp} {a : Addr} {xs : List V} (e : Same H H') (h : SqT K H a xs) : SqT K H' a xs := by
  rcases h with (h | ⟨o, h⟩) | h
  · exact .inl (.inl (e _ _ h))
  · exact .inl (.inr ⟨o, e _ _ h⟩)
  · exact .inr h
theorem Kp.refl : Kp m H H := fun _ _ _ h => h
theorem Kp.trans (a : Kp m H H1) (b : Kp m H1 H2) : Kp m H H2 := fun c o h z => b c o h (a c o h z)
theorem Kp.of (s : Same H H1) : Kp m H H1 := fun c o _ z => s c o z
theorem _root_.L2.Same.new (h : H p = none) (o : HO) : Same H (upd H p o) := fun b u e => by
  rw [upd_ne (ne_of_none e h)]
  exact e
theorem Kp.new (h : H p = none) (o : HO) : Kp m H (upd H p o) := Kp.of (Same.new h o)
theorem Kp.at (o : HO) : Kp m H (upd H m o) := fun b u h e => by
  rw [upd_ne h]
  exact e
theorem Kp.put (k : Kp m H H1) (o : HO) : Kp m H (upd H1 m o) := k.trans (Kp.at o)
theorem Kp.get (k : Kp m H H1) (h : H p = some o) (hm : H m = some u) (d : o ≠ u) : H1 p = some o := k p o (ne_of h hm d) h
/-- a new object changed after it was made -/
theorem _root_.L2.Same.put (s : Same H H1) (h : H p = none) (o : HO) : Same H (upd H1 p o) := fun b u e => by
  rw [upd_ne (ne_of_none e h)]
  exact s b u e
theorem Kp.put' (s : Kp m H H1) (h : H p = none) (o : HO) : Kp m H (upd H1 p o) := fun b u hb e => by
  rw [upd_ne (ne_of_none e h)]
  exact s b u hb e
theorem Kp.free (k : Kp m H H1) (h : H1 p = none) (hm : p ≠ m) : H p = none := by
  cases z : H p with
  | none => rfl
  | some o =>
    rw [k p o hm z] at h
    cases h
theorem ne_new (h : H p = some o) (n : H q = none) : p ≠ q := ne_of_none h n
end

/-! ## the state -/
def mk (l s : Int) (c : Addr) (p : Int) : List (Key × V) :=
  [(.inr "left", .int l), (.inr "seed", .int s), (.inr "cells", .ref c), (.inr "spot", .int p)]
section
variable {H : Hp} {m c : Addr} {l s p l' p' : Int}
theorem val_left : valV (mk l s c p) (.inr "left") = some (.int l) := rfl
theorem val_seed : valV (mk l s c p) (.inr "seed") = some (.int s) := rfl
theorem val_cells : valV (mk l s c p) (.inr "cells") = some (.ref c) := rfl
theorem val_spot : valV (mk l s c p) (.inr "spot") = some (.int p) := rfl
theorem put_left : putK (mk l s c p) (.inr "left") (.int l') = mk l' s c p := rfl
theorem put_spot : putK (mk l s c p) (.inr "spot") (.int p') = mk l s c p' := rfl
theorem merge_mk : mergeK [] (mk l s c p) = mk l s c p := rfl
end
end Gd

/-! # readings, step by step -/
namespace Gd
open PySem PySem.Spec PyProof.Rows L2
section
variable {K : PySem.W.Frag} {σ : L2.St} {H : Hp} {Q : VK} {QB : Bool → Hp → Prop} {QA : List V → Hp → Prop} {QO : Option Int → Hp → Prop} {QS : L2.St → Hp → Prop}
  {D : Ends} {te ta tb tc td ty tv tl th : TE} {tt uu : TT} {t u : TS} {ts tr : TA} {g : TG} {v x y : V} {a p : Addr} {xs ys : List V} {i j : Int} {n k : Nat} {b : Bool} {c : Prop} [Decidable c]
theorem rd_seq (h : t { D with nx := u D } σ H) : tSeq t u D σ H := h
theorem rd_next (h : D.nx σ H) : tNext D σ H := h
theorem rd_brk (h : D.bk σ H) : tBreak D σ H := h
theorem rd_cnt (h : D.ct σ H) : tCont D σ H := h
theorem rd_asg (h : te σ H fun v H1 => D.nx (σ.set n (some v)) H1) : tAsg te (gName n) D σ H := h
theorem rd_drop (h : te σ H fun _ H1 => D.nx σ H1) : tDrop te D σ H := h
theorem rd_ret (h : te σ H fun v H1 => D.rt v H1) : tRet te D σ H := h
theorem rd_retN (h : D.rt .non H) : tRetN D σ H := h
theorem rd_ifs (h : tt σ H fun b H1 => if b = true then t D σ H1 else u D σ H1) : tIfS tt t u D σ H := h
theorem rd_par (h : ts σ H fun vs H1 => ∃ v w, vs = [v, w] ∧ D.nx ((σ.set n (some v)).set k (some w)) H1) : tPar n k ts D σ H := h
theorem rd_pair {P : V → V → Prop} (h : P x y) : ∃ v w, [x, y] = [v, w] ∧ P v w := ⟨x, y, rfl, h⟩
theorem rd_var (e : σ[n]? = some (some v)) (h : Q v H) : tVar n σ H Q := ⟨v, e, h⟩
theorem rd_c (h : Q v H) : tC v σ H Q := h
theorem rd_op {r : R2} (h : ta σ H fun x H1 => tb σ H1 fun y H2 => r x y H2 Q) : tOp r ta tb σ H Q := h
theorem rd_un {r : V → Hp → VK → Prop} (h : ta σ H fun x H1 => r x H1 Q) : tUn r ta σ H Q := h
theorem rd_cb {r : List V → Hp → VK → Prop} (h : ts σ H fun vs H1 => r vs H1 Q) : tCB r ts σ H Q := h
theorem rd_call {sp : Sp} {dvs : List V} {E : XK} (h : ts σ H fun vs H1 => sp (vs ++ dvs) H1 Q E) : tCall sp dvs E ts σ H Q := h
theorem rd_nil (h : QA [] H) : tNil σ H QA := h
theorem rd_cons (h : ta σ H fun x H1 => tr σ H1 fun xs H2 => QA (x :: xs) H2) : tCons ta tr σ H QA := h
theorem rd_tup (h : ts σ H fun xs H1 => xs.length ≤ sizeLine ∧ ∀ p, H1 p = none → Q (.ref p) (upd H1 p (.tup xs))) : tTup ts σ H Q := h
theorem rd_lst (h : ts σ H fun xs H1 => xs.length ≤ sizeLine ∧ ∀ p, H1 p = none → Q (.ref p) (upd H1 p (.lst xs))) : tLst ts σ H Q := h
theorem rd_if (h : tt σ H fun c H1 => if c = true then ta σ H1 Q else tb σ H1 Q) : tIf tt ta tb σ H Q := h
theorem rd_test (h : te σ H fun x H1 => ∃ k, x = .bl k ∧ QB k H1) : tTest te σ H QB := h
theorem rd_tb (h : te σ H fun x H1 => ∃ k, x = .bl k ∧ QB k H1) : tB te σ H QB := h
theorem rd_bl {P : Bool → Prop} (h : P b) : ∃ k, V.bl b = .bl k ∧ P k := ⟨b, rfl, h⟩
theorem rd_and (h : tt σ H fun c H1 => if c = true then uu σ H1 QB else QB false H1) : tAnd tt uu σ H QB := h
theorem rd_or (h : tt σ H fun c H1 => if c = true then QB true H1 else uu σ H1 QB) : tOr tt uu σ H QB := h
theorem rd_not (h : tt σ H fun c H1 => QB (!c) H1) : tNot tt σ H QB := h
theorem rd_andV (h : ta σ H fun x H1 => ∃ c, x = .bl c ∧ if c = true then tb σ H1 Q else Q (.bl false) H1) : tAndV ta tb σ H Q := h
theorem rd_orV (h : ta σ H fun x H1 => ∃ c, x = .bl c ∧ if c = true then Q (.bl true) H1 else tb σ H1 Q) : tOrV ta tb σ H Q := h
theorem rd_notV (h : ta σ H fun x H1 => ∃ c, x = .bl c ∧ Q (.bl (!c)) H1) : tNotV ta σ H Q := h
theorem rd_sl {r : V → Option Int → Option Int → Hp → VK → Prop} {tl th : TO} (h : te σ H fun x H1 => tl σ H1 fun l H2 => th σ H2 fun u H3 => r x l u H3 Q) : tSl r te tl th σ H Q := h
theorem rd_nopart (h : QO none H) : tNoPart σ H QO := h
theorem rd_part (h : te σ H fun x H1 => ∃ i, x = .int i ∧ QO (some i) H1) : tPart te σ H QO := h
theorem rd_int {P : Int → Prop} (h : P i) : ∃ k, V.int i = .int k ∧ P k := ⟨i, rfl, h⟩
theorem rd_dget (h : td σ H fun x H1 => ty σ H1 fun y H2 => ∃ a v, x = .ref a ∧ DGet H2 a y (some v) ∧ Q v H2) : tDGet td ty σ H Q := h
theorem rd_dgetK {P : V → Prop} {kvs : List (Key × V)} {z : Str} (hm : H a = some (.dK kvs)) (hv : valV kvs (.inr z) = some v) (h : P v) :
    ∃ b w, V.ref a = .ref b ∧ DGet H b (.str z) (some w) ∧ P w := ⟨a, v, rfl, .inl ⟨kvs, .inr z, .inl hm, rfl, hv.symm⟩, h⟩
theorem rd_dput (h : tv σ H fun v H1 => td σ H1 fun x H2 => ty σ H2 fun y H3 => ∃ a H4, x = .ref a ∧ DPut H3 a y v H4 ∧ D.nx σ H4) : sDPut td ty tv D σ H := h
theorem rd_dputK {P : Hp → Prop} {kvs kvs' : List (Key × V)} {z : Str} (hm : H a = some (.dK kvs)) (hv : putK kvs (.inr z) v = kvs') (hl : kvs.length < 1000000) (h : P (upd H a (.dK kvs'))) :
    ∃ b H4, V.ref a = .ref b ∧ DPut H b (.str z) v H4 ∧ P H4 := ⟨a, _, rfl, .inl ⟨kvs, .inr z, hm, rfl, Nat.lt_of_lt_of_le hl (by decide), rfl⟩, by rw [hv]; exact h⟩
theorem rd_i0 {f : Int → Int → V} (h : Q (f i j) H) : rI0 f (.int i) (.int j) H Q := ⟨i, j, rfl, rfl, h⟩
theorem rd_i {C : Int → Int → Prop} {f : Int → Int → V} (hc : C i j) (h : Q (f i j) H) : rI C f (.int i) (.int j) H Q := ⟨i, j, rfl, rfl, hc, h⟩
theorem rd_u {f : Int → V} (h : Q (f i) H) : rU f (.int i) H Q := ⟨i, rfl, h⟩
theorem rd_eq (hs : scal x y = true) (h : Q (.bl (decide (x = y))) H) : rEq x y H Q := ⟨hs, h⟩
theorem rd_ne (hs : scal x y = true) (h : Q (.bl (!decide (x = y))) H) : rNe x y H Q := ⟨hs, h⟩
theorem rd_intI {A : Int → Prop} {B : Prop} (h : A i) : (∃ k, [V.int i] = [V.int k] ∧ A k) ∨ B := .inl ⟨i, rfl, h⟩
theorem rd_ixL (hs : SqL K H a xs) (hv : atI xs i = some v) (h : Q v H) : rIxL K (.ref a) (.int i) H Q := ⟨a, xs, i, v, rfl, rfl, hs, hv, h⟩
theorem rd_ixT (hs : SqT K H a xs) (hv : atI xs i = some v) (h : Q v H) : rIxT K (.ref a) (.int i) H Q := ⟨a, xs, i, v, rfl, rfl, hs, hv, h⟩
theorem rd_slL {lo hi : Option Int} (hs : SqL K H a xs) (h : ∀ p, H p = none → Q (.ref p) (upd H p (.lst (cutV xs lo hi)))) : rSlL K (.ref a) lo hi H Q := ⟨a, xs, rfl, hs, h⟩
theorem rd_cat (hl : H a = some (.lst xs)) (hb : H p = some (.lst ys)) (hz : xs.length + ys.length ≤ 1000000) (h : ∀ q, H q = none → Q (.ref q) (upd H q (.lst (xs ++ ys)))) :
    rCat (.ref a) (.ref p) H Q := ⟨a, p, xs, ys, rfl, rfl, hl, hb, Nat.le_trans hz (by decide), h⟩
theorem rd_len {A : List V → Prop} (hs : SqL K H a xs ∨ SqT K H a xs) (h : A xs) : ∃ p ys, [V.ref a] = [V.ref p] ∧ (SqL K H p ys ∨ SqT K H p ys) ∧ A ys := ⟨a, xs, rfl, hs, h⟩
theorem rd_true (h : c) {A B : Prop} (q : A) : if decide c = true then A else B := by rw [decide_eq_true h]; exact iteT q
theorem rd_false (h : ¬ c) {A B : Prop} (q : B) : if decide c = true then A else B := by rw [decide_eq_false h]; exact iteF q
/-- a test of which nothing is known: two ways -/
theorem rd_two {A B : Prop} (h1 : c → A) (h2 : ¬ c → B) : if decide c = true then A else B := by
  by_cases h : c
  · exact rd_true h (h1 h)
  · exact rd_false h (h2 h)
theorem sqL (h : H a = some (.lst xs)) : SqL K H a xs := .inl (.inl h)
theorem sqT (h : H a = some (.tup xs)) : SqT K H a xs := .inl (.inl h)
end
theorem atI_in {α : Type} {xs : List α} {i : Int} (h0 : 0 ≤ i) (h1 : i < (xs.length : Int)) : ∃ v, atI xs i = some v ∧ xs[i.toNat]? = some v ∧ v ∈ xs := by
  obtain ⟨j, rfl⟩ : ∃ j : Nat, i = (j : Int) := ⟨i.toNat, by omega⟩
  have hj : j < xs.length := by omega
  refine ⟨xs[j], atI_nat (List.getElem?_eq_getElem hj), ?_, List.getElem_mem hj⟩
  show xs[j]? = some xs[j]
  exact List.getElem?_eq_getElem hj
theorem atI_mod {α : Type} {xs : List α} (p : Int) (h : xs ≠ []) : ∃ v, atI xs (p % (xs.length : Int)) = some v ∧ v ∈ xs := by
  have h0 : 0 < xs.length := List.length_pos_iff.mpr h
  obtain ⟨v, e, _, m⟩ := atI_in (xs := xs) (Int.emod_nonneg p (b := (xs.length : Int)) (by omega)) (Int.emod_lt_of_pos p (by omega))
  exact ⟨v, e, m⟩
section
variable {X : Cx} (K : PySem.W.Frag)
/-- the rules that speak of the written part, with its name given -/
theorem ix_tupK (h : X.K = K := by rfl) : IxR X (rIxT K) := h ▸ ix_tup
theorem ix_listK (h : X.K = K := by rfl) : IxR X (rIxL K) := h ▸ ix_list
theorem in_seqK (h : X.K = K := by rfl) : OpR X (compareOp .In) (rIn K false) := h ▸ op_in_seq
theorem notIn_seqK (h : X.K = K := by rfl) : OpR X (compareOp .NotIn) (rIn K true) := h ▸ op_notIn_seq
theorem len_seqK (h : X.K = K := by rfl) : CallR X (.builtin "len") (fun xs H Q => ∃ p ys, xs = [.ref p] ∧ (SqL K H p ys ∨ SqT K H p ys) ∧ Q (.int ys.length) H) := h ▸ call_len_seq
theorem sl_listK (h : X.K = K := by rfl) : SlR X (rSlL K) := h ▸ sl_list
theorem sl_tupK (h : X.K = K := by rfl) : SlR X (rSlT K) := h ▸ sl_tup
theorem tuple_ofK (h : X.K = K := by rfl) : CallR X (.type "tuple") (fun xs H Q => ∃ p ys, xs = [.ref p] ∧ ((SqL K H p ys ∧ ∀ l, H l = none → Q (.ref l) (upd H l (.tup ys))) ∨ (SqT K H p ys ∧ Q (.ref p) H))) := h ▸ call_tuple_of
theorem list_ofK (h : X.K = K := by rfl) : CallR X (.type "list") (fun xs H Q => ∃ p ys, xs = [.ref p] ∧ (SqL K H p ys ∨ SqT K H p ys) ∧ ∀ l, H l = none → Q (.ref l) (upd H l (.lst ys))) := h ▸ call_list_of
theorem sumK (hc : X.calm = true := by rfl) (h : X.K = K := by rfl) : CallR X (.builtin "sum") (rSum K) := h ▸ cr_sum hc
theorem allK (hc : X.calm = true := by rfl) (h : X.K = K := by rfl) : CallR X (.builtin "all") (rAll K) := h ▸ cr_all hc
theorem eqDK (hu : X.A.units + 64 < cLine) (h : X.K = K := by rfl) : OpR X (compareOp .Eq) (rEqD K) := h ▸ op_eqD hu
theorem neDK (hu : X.A.units + 64 < cLine) (h : X.K = K := by rfl) : OpR X (compareOp .NotEq) (rNeD K) := h ▸ op_neD hu
theorem reprK {k : Nat} (gd : X.A.guards = some []) (hr : Room k X.A) (h : X.K = K := by rfl) : CallR X (.builtin "repr") (rRepr K) := h ▸ call_reprD gd hr
end
end Gd

/-! # loops and comprehensions -/
namespace Gd
open PySem PySem.Spec PyProof.Rows L2 RZ
section
variable {K : PySem.W.Frag} {σ : L2.St} {H H1 : Hp} {Q : VK} {D : Ends} {te tl : TE} {tt : TT} {tb : TS} {ts : TA} {wi : TI} {R : It → Hp → Prop} {g : TG} {vs : List Nat} {a b : Addr} {xs ys : List V} {j i1 i2 n : Nat}
theorem rd_for (h : wi σ H fun J H1 => ∃ W : Nat → Nat → L2.St → Hp → Prop, (∃ m, W 0 m σ H1) ∧ ∀ i m σ H, W i m σ H →
    (J.stop i H ∧ D.nx σ H) ∨ (J.go i H ∧ ∃ N : L2.St → Hp → Prop, (∀ σ' H', N σ' H' → ∃ m', m' < m ∧ W (i + 1) m' σ' H') ∧
      ∀ x H', J.yld i H x H' → g x σ H' fun σ2 H2 => tb { D with nx := N, ct := N, bk := D.nx } σ2 H2)) : tFor wi g tb D σ H := h
theorem rd_lc (h : wi σ H fun J H1 => ∀ D, H1 D = none → ∃ W : Nat → Nat → Hp → Prop, (∃ m, W 0 m (upd H1 D (.lst []))) ∧ ∀ i m H, W i m H →
    (J.stop i H ∧ Q (.ref D) H) ∨ (J.go i H ∧ ∃ Nx : Hp → Prop, (∀ H', Nx H' → ∃ m', m' < m ∧ W (i + 1) m' H') ∧
      ∀ x H', J.yld i H x H' → g x (wipe σ vs) H' fun σ2 H2 => wipe σ2 vs = wipe σ vs ∧ tt σ2 H2 fun b H3 =>
        if b = true then te σ2 H3 fun y H4 => ∃ acc, H4 D = some (.lst acc) ∧ acc.length < sizeLine ∧ Nx (upd H4 D (.lst (acc ++ [y]))) else Nx H3)) :
    tLc wi g tt te vs σ H Q := h
theorem rd_iL (h : tl σ H fun x H1 => ∃ a, x = .ref a ∧ (∃ xs, SqL K H1 a xs) ∧ R (Itl K a) H1) : iList K tl σ H R := h
theorem rd_iT (h : tl σ H fun x H1 => ∃ a, x = .ref a ∧ (∃ xs, SqT K H1 a xs) ∧ R (Itt K a) H1) : iTup K tl σ H R := h
theorem rd_iR1 (h : ts σ H fun vs H1 => ∃ j : Int, vs = [.int j] ∧ -(2 ^ 62) ≤ j ∧ j < 2 ^ 62 ∧ R (Itr 0 j.toNat) H1) : iRng1 ts σ H R := h
theorem rd_iZ (h : ts σ H fun vs H1 => ∃ a b xs ys, vs = [.ref a, .ref b] ∧ ((SqL K H1 a xs ∧ SqL K H1 b ys ∧ R (Itz K a b) H1) ∨ (SqT K H1 a xs ∧ SqT K H1 b ys ∧ R (ItzT K a b) H1))) : iZipA K ts σ H R := h
theorem rd_atL {P : Addr → Prop} (h : SqL K H a xs) (q : P a) : ∃ b, V.ref a = .ref b ∧ (∃ xs, SqL K H b xs) ∧ P b := ⟨a, rfl, ⟨xs, h⟩, q⟩
theorem rd_atT {P : Addr → Prop} (h : SqT K H a xs) (q : P a) : ∃ b, V.ref a = .ref b ∧ (∃ xs, SqT K H b xs) ∧ P b := ⟨a, rfl, ⟨xs, h⟩, q⟩
theorem rd_atR {P : Int → Prop} {i : Int} (h0 : 0 ≤ i) (h1 : i ≤ 1000000) (q : P i) : ∃ j : Int, [V.int i] = [.int j] ∧ -(2 ^ 62) ≤ j ∧ j < 2 ^ 62 ∧ P j := ⟨i, rfl, by omega, by omega, q⟩
theorem rd_atZ {P P' : Addr → Addr → Prop} (h : SqT K H a xs) (h' : SqT K H b ys) (q : P' a b) :
    ∃ c d zs ws, [V.ref a, V.ref b] = [.ref c, .ref d] ∧ ((SqL K H c zs ∧ SqL K H d ws ∧ P c d) ∨ (SqT K H c zs ∧ SqT K H d ws ∧ P' c d)) := ⟨a, b, xs, ys, rfl, .inr ⟨h, h', q⟩⟩
theorem rd_yes {QB : Bool → Hp → Prop} (h : QB true H) : tYes σ H QB := h
theorem rd_gname {v : V} {QS : L2.St → Hp → Prop} (h : QS (σ.set n (some v)) H) : gName n v σ H QS := h
theorem rd_gtup {QS : L2.St → Hp → Prop} {t : TGs} (h : SqT K H a xs) (hn : xs.length = n) (q : t xs σ H QS) : gTup K n t (.ref a) σ H QS := ⟨a, xs, rfl, h, hn, q⟩
theorem rd_gcons {QS : L2.St → Hp → Prop} {t : TG} {u : TGs} {v : V} {r : List V} (q : t v σ H fun σ' H' => u r σ' H' QS) : gCons t u (v :: r) σ H QS := ⟨v, r, rfl, q⟩
theorem rd_gnil {QS : L2.St → Hp → Prop} (q : QS σ H) : gNil [] σ H QS := ⟨rfl, q⟩
theorem rd_tyL {P : Prop} (h : SqL K H a xs) (q : P) : tyV K "list" (.ref a) H ∧ P := ⟨.inl ⟨rfl, _, h⟩, q⟩

theorem rd_asgG (h : te σ H fun v H1 => g v σ H1 D.nx) : tAsg te g D σ H := h
theorem rd_ii {P : Int → Int → Prop} {i j : Int} (h : P i j) : ∃ k l, [V.int i, V.int j] = [.int k, .int l] ∧ P k l := ⟨i, j, rfl, h⟩
theorem max_nat (a b : Nat) : (if (b : Int) > (a : Int) then (b : Int) else (a : Int)) = ((max a b : Nat) : Int) := by
  split <;> omega
theorem min_nat (a b : Nat) : (if (b : Int) < (a : Int) then (b : Int) else (a : Int)) = ((min a b : Nat) : Int) := by
  split <;> omega
theorem rd_disp {trs : List (TE × TE)} (h : ∀ p, H p = none → tPairs trs σ (upd H p (.dK [])) fun ps H2 => H2 p = some (.dK []) ∧
    ∃ kvs : List (Key × V), ps = kvs.map (fun kv => (kV kv.1, kv.2)) ∧ kvs.length ≤ 15 ∧ Q (.ref p) (upd H2 p (.dK (mergeK [] kvs)))) : tDisp trs σ H Q := h
theorem rd_pcons {tk tv : TE} {r : List (TE × TE)} {QP : List (V × V) → Hp → Prop} (h : tk σ H fun x H1 => tv σ H1 fun y H2 => tPairs r σ H2 fun ps H3 => QP ((x, y) :: ps) H3) :
    tPairs ((tk, tv) :: r) σ H QP := h
theorem rd_pnil {QP : List (V × V) → Hp → Prop} (h : QP [] H) : tPairs [] σ H QP := h
theorem cut_ints (ns : List Int) (lo hi : Option Int) : ∃ ms : List Int, cutV (ns.map V.int) lo hi = ms.map V.int ∧ ms.length ≤ ns.length := by
  refine ⟨(ns.drop (HT.sIx ns.length 0 lo)).take (HT.sIx ns.length ns.length hi - HT.sIx ns.length 0 lo), ?_, ?_⟩
  · unfold cutV
    rw [List.length_map, List.map_take, List.map_drop]
  · rw [List.length_take, List.length_drop]
    omega
open Evl in
theorem given_ints (n : Nat) (f : Nat → Bool) (h : Nat → Int) : given n f (fun i => V.int (h i)) = (((List.range n).filter f).map h).map V.int := by
  unfold given
  rw [List.map_map]
  rfl
theorem forL {Nx : L2.St → Hp → Prop} {Rt : VK} (Pv : Nat → L2.St → Hp → Prop) (h0 : Pv 0 σ H) (hl : ∀ i σ H, i ≤ xs.length → Pv i σ H → SqL K H a xs)
    (hs : ∀ i x σ H, xs[i]? = some x → Pv i σ H → g x σ H fun σ2 H2 => tb { nx := Pv (i + 1), rt := Rt, ct := Pv (i + 1), bk := Nx } σ2 H2) (hd : ∀ σ H, Pv xs.length σ H → Nx σ H) :
    ∃ W : Nat → Nat → L2.St → Hp → Prop, (∃ m, W 0 m σ H) ∧ ∀ i m σ H, W i m σ H → ((Itl K a).stop i H ∧ Nx σ H) ∨ ((Itl K a).go i H ∧ ∃ N : L2.St → Hp → Prop,
      (∀ σ' H', N σ' H' → ∃ m', m' < m ∧ W (i + 1) m' σ' H') ∧ ∀ x H', (Itl K a).yld i H x H' → g x σ H' fun σ2 H2 => tb { nx := N, rt := Rt, bk := Nx, ct := N } σ2 H2) :=
  for_list (D := { nx := Nx, rt := Rt }) Pv h0 hl hs hd
theorem forT {Nx : L2.St → Hp → Prop} {Rt : VK} (Pv : Nat → L2.St → Hp → Prop) (h0 : Pv 0 σ H) (hl : ∀ i σ H, i ≤ xs.length → Pv i σ H → SqT K H a xs)
    (hs : ∀ i x σ H, xs[i]? = some x → Pv i σ H → g x σ H fun σ2 H2 => tb { nx := Pv (i + 1), rt := Rt, ct := Pv (i + 1), bk := Nx } σ2 H2) (hd : ∀ σ H, Pv xs.length σ H → Nx σ H) :
    ∃ W : Nat → Nat → L2.St → Hp → Prop, (∃ m, W 0 m σ H) ∧ ∀ i m σ H, W i m σ H → ((Itt K a).stop i H ∧ Nx σ H) ∨ ((Itt K a).go i H ∧ ∃ N : L2.St → Hp → Prop,
      (∀ σ' H', N σ' H' → ∃ m', m' < m ∧ W (i + 1) m' σ' H') ∧ ∀ x H', (Itt K a).yld i H x H' → g x σ H' fun σ2 H2 => tb { nx := N, rt := Rt, bk := Nx, ct := N } σ2 H2) :=
  for_tup (D := { nx := Nx, rt := Rt }) Pv h0 hl hs hd
theorem forR {Nx : L2.St → Hp → Prop} {Rt : VK} {lo : Int} (Pv : Nat → L2.St → Hp → Prop) (h0 : Pv 0 σ H) 
    (hs : ∀ i σ H, i < n → Pv i σ H → g (.int (lo + i)) σ H fun σ2 H2 => tb { nx := Pv (i + 1), rt := Rt, ct := Pv (i + 1), bk := Nx } σ2 H2) (hd : ∀ σ H, Pv n σ H → Nx σ H) :
    ∃ W : Nat → Nat → L2.St → Hp → Prop, (∃ m, W 0 m σ H) ∧ ∀ i m σ H, W i m σ H → ((Itr lo n).stop i H ∧ Nx σ H) ∨ ((Itr lo n).go i H ∧ ∃ N : L2.St → Hp → Prop,
      (∀ σ' H', N σ' H' → ∃ m', m' < m ∧ W (i + 1) m' σ' H') ∧ ∀ x H', (Itr lo n).yld i H x H' → g x σ H' fun σ2 H2 => tb { nx := N, rt := Rt, bk := Nx, ct := N } σ2 H2) :=
  for_range (D := { nx := Nx, rt := Rt }) Pv h0 hs hd
theorem walk_zipT {n : Nat} (hn : n = min xs.length ys.length) : Walk (ItzT K a b) n (fun H => SqT K H a xs ∧ SqT K H b ys) (YPair (fun i => xs[i]?) (fun i => ys[i]?)) := by
  subst hn
  refine ⟨?_, ?_, ?_⟩
  · intro i _ hi q
    have h1 : i < xs.length := by omega
    have h2 : i < ys.length := by omega
    exact ⟨xs, ys, xs[i], ys[i], q.1, q.2, by simp [h1], by simp [h2]⟩
  · intro _ q
    exact ⟨xs, ys, q.1, q.2, by omega⟩
  · intro i H v H' _ q y
    obtain ⟨T, x, z, h1, h2, h3, h4, h5⟩ := y
    exact ⟨T, x, z, h1, h2, h3, h4 xs q.1, h5 ys q.2⟩

open Evl in
/-- a comprehension whose turns change nothing that stood: the turn's item is src i, kept if f i, giving v i -/
theorem lc_src {J : It} {G : Hp → Prop} {Y : Nat → Hp → V → Hp → Prop} {Dl : Addr} {Qd : Hp → Prop} (w : Walk J n G Y) (src : Nat → V)
    (hy : ∀ i H x H', i < n → Y i H x H' → H' = H ∧ x = src i) (f : Nat → Bool) (v : Nat → V) (hn : n ≤ 1000000) (hD : H1 Dl = none)
    (hG : ∀ H', Same H1 H' → G H') (hw : ∀ x, wipe ((wipe σ vs).set j (some x)) vs = wipe σ vs)
    (ht : ∀ i H' (R : Bool → Hp → Prop), i < n → Same H1 H' → R (f i) H' → tt ((wipe σ vs).set j (some (src i))) H' R)
    (he : ∀ i H' (R : VK), i < n → f i = true → Same H1 H' → (∀ H'', Same H' H'' → R (v i) H'') → te ((wipe σ vs).set j (some (src i))) H' R)
    (hd : ∀ H', Same H1 H' → H' Dl = some (.lst (given n f v)) → Qd H') :
    ∃ W : Nat → Nat → Hp → Prop, (∃ m, W 0 m (upd H1 Dl (.lst []))) ∧ ∀ i m H, W i m H →
      (J.stop i H ∧ Qd H) ∨ (J.go i H ∧ ∃ Nx : Hp → Prop, (∀ H', Nx H' → ∃ m', m' < m ∧ W (i + 1) m' H') ∧
        ∀ x H', J.yld i H x H' → gName j x (wipe σ vs) H' fun σ2 H2 => wipe σ2 vs = wipe σ vs ∧ tt σ2 H2 fun b H3 =>
          if b = true then te σ2 H3 fun y H4 => ∃ acc, H4 Dl = some (.lst acc) ∧ acc.length < sizeLine ∧ Nx (upd H4 Dl (.lst (acc ++ [y]))) else Nx H3) := by
  refine lc_it w (fun i H' => Same H1 H' ∧ H' Dl = some (.lst (given i f v))) ⟨Same.new hD _, upd_same⟩ (fun i H' _ p => hG H' p.1) ?_ fun H' p => hd H' p.1 p.2
  intro i x H H' hi p y
  obtain ⟨rfl, rfl⟩ := hy i H x H' hi y
  refine ⟨hw _, ht i H' _ hi p.1 ?_⟩
  cases hf : f i with
  | false =>
    refine iteF ⟨p.1, ?_⟩
    rw [given_no hf]
    exact p.2
  | true =>
    refine iteT (he i H' _ hi hf p.1 fun H'' s => ⟨given i f v, s _ _ p.2, ?_, ?_, ?_⟩)
    · have := given_len i f v
      rw [sizeLine_eq]
      omega
    · exact Same.put (p.1.trans s) hD _
    · rw [given_yes hf]
      exact upd_same
open Evl in
/-- the same over zip of two tuples -/
theorem lc_zip {Dl : Addr} {Qd : Hp → Prop} (v : Nat → V) (hl : xs.length = ys.length) (hn : xs.length ≤ 1000000) (hD : H1 Dl = none)
    (hx : SqT K H1 a xs) (hy : SqT K H1 b ys) (hw : ∀ x y, wipe (((wipe σ vs).set i1 (some x)).set i2 (some y)) vs = wipe σ vs)
    (he : ∀ i x y H' (R : VK), xs[i]? = some x → ys[i]? = some y → Same H1 H' → (∀ H'', Same H' H'' → R (v i) H'') →
      te (((wipe σ vs).set i1 (some x)).set i2 (some y)) H' R)
    (hd : ∀ H', Same H1 H' → H' Dl = some (.lst ((List.range xs.length).map v)) → Qd H') :
    ∃ W : Nat → Nat → Hp → Prop, (∃ m, W 0 m (upd H1 Dl (.lst []))) ∧ ∀ i m H, W i m H →
      ((ItzT K a b).stop i H ∧ Qd H) ∨ ((ItzT K a b).go i H ∧ ∃ Nx : Hp → Prop, (∀ H', Nx H' → ∃ m', m' < m ∧ W (i + 1) m' H') ∧
        ∀ x H', (ItzT K a b).yld i H x H' → gTup K 2 (gCons (gName i1) (gCons (gName i2) gNil)) x (wipe σ vs) H' fun σ2 H2 => wipe σ2 vs = wipe σ vs ∧ tYes σ2 H2 fun b H3 =>
          if b = true then te σ2 H3 fun y H4 => ∃ acc, H4 Dl = some (.lst acc) ∧ acc.length < sizeLine ∧ Nx (upd H4 Dl (.lst (acc ++ [y]))) else Nx H3) := by
  refine lc_it (walk_zipT (n := xs.length) (xs := xs) (ys := ys) (by omega)) (fun i H' => Same H1 H' ∧ H' Dl = some (.lst ((List.range i).map v)))
    ⟨Same.new hD _, upd_same⟩ (fun i H' _ p => ⟨p.1.seqT hx, p.1.seqT hy⟩) ?_ fun H' p => hd H' p.1 p.2
  rintro i z H H' hi ⟨s, e⟩ ⟨T, x, y, rfl, nT, rfl, ex, ey⟩
  have s' : Same H1 (upd H T (.tup [x, y])) := s.trans (Same.new nT _)
  have nDT : Dl ≠ T := ne_of_none e nT
  refine rd_gtup (xs := [x, y]) (sqT upd_same) rfl (rd_gcons (rd_gname (rd_gcons (rd_gname (rd_gnil ⟨hw x y, ?_⟩)))))
  refine rd_yes (iteT (he i x y _ _ ex ey s' fun H'' s'' => ⟨(List.range i).map v, s'' _ _ (by rw [upd_ne nDT]; exact e), ?_, ?_, ?_⟩))
  · rw [List.length_map, List.length_range, sizeLine_eq]
    omega
  · exact Same.put (s'.trans s'') hD _
  · rw [upd_same, List.range_succ, List.map_append]
    rfl
end
end Gd

/-! # sayings -/
namespace Gd
open PySem PySem.Spec PyProof.Rows L2

inductive Mk6 where
  | plus | times | leads | and | or | same
def Mk6.str : Mk6 → Str
  | .plus => "plus" | .times => "times" | .leads => "leads" | .and => "and" | .or => "or" | .same => "same"
inductive Say where
  | unk (x : Str) | yes | no | not (a : Say) | bin (k : Mk6) (a b : Say)
def Say.head : Say → Str
  | .unk _ => "unknown" | .yes => "yes" | .no => "no" | .not _ => "not" | .bin k _ _ => k.str
def Say.kids : Say → List Say
  | .unk _ => [] | .yes => [] | .no => [] | .not a => [a] | .bin _ a b => [a, b]
def Say.isUnk : Say → Bool
  | .unk _ => true | _ => false
def Say.depth : Say → Nat
  | .unk _ => 0 | .yes => 0 | .no => 0 | .not a => a.depth + 1 | .bin _ a b => max a.depth b.depth + 1
def Say.words : Say → Nat
  | .unk _ => 1 | .yes => 1 | .no => 1 | .not a => a.words + 1 | .bin _ a b => a.words + b.words + 1
def Say.marks : Say → Nat
  | .unk _ => 0 | .yes => 0 | .no => 0 | .not a => a.marks | .bin _ a b => a.marks + b.marks + 1
/-- the names, as often as they stand there -/
def Say.leaves : Say → List Str
  | .unk x => [x] | .yes => [] | .no => [] | .not a => a.leaves | .bin _ a b => a.leaves ++ b.leaves
def Say.namesIn : Say → List Str → List Str
  | .unk x, f => if x ∈ f then f else f ++ [x]
  | .yes, f => f | .no, f => f | .not a, f => a.namesIn f | .bin _ a b, f => b.namesIn (a.namesIn f)
/-- all words in writing order -/
def Say.all : Say → List Say
  | .unk x => [.unk x] | .yes => [.yes] | .no => [.no] | .not a => .not a :: a.all | .bin k a b => .bin k a b :: (a.all ++ b.all)
def SayAt (H : Hp) : Say → V → Prop
  | .unk x, v => ∃ p, v = .ref p ∧ H p = some (.tup [.str "unknown", .str x])
  | .yes, v => ∃ p, v = .ref p ∧ H p = some (.tup [.str "yes"])
  | .no, v => ∃ p, v = .ref p ∧ H p = some (.tup [.str "no"])
  | .not a, v => ∃ p u, v = .ref p ∧ H p = some (.tup [.str "not", u]) ∧ SayAt H a u
  | .bin k a b, v => ∃ p u w, v = .ref p ∧ H p = some (.tup [.str k.str, u, w]) ∧ SayAt H a u ∧ SayAt H b w
/-- tuples stay -/
def Tk (H H' : Hp) : Prop := ∀ p xs, H p = some (.tup xs) → H' p = some (.tup xs)
section
variable {H H' H1 : Hp} {s : Say} {v : V} {m : Addr}
theorem Tk.refl : Tk H H := fun _ _ h => h
theorem Tk.trans (a : Tk H H1) (b : Tk H1 H') : Tk H H' := fun p xs h => b p xs (a p xs h)
theorem Tk.of (h : Same H H') : Tk H H' := fun p xs e => h _ _ e
theorem Tk.kp {kvs : List (Key × V)} (h : Kp m H H') (e : H m = some (.dK kvs)) : Tk H H' := fun p xs q => h.get q e (fun z => nomatch z)
theorem SayAt.keep (t : Tk H H') : ∀ {s : Say} {v : V}, SayAt H s v → SayAt H' s v
  | .unk x, v, ⟨p, e, h⟩ => ⟨p, e, t _ _ h⟩
  | .yes, v, ⟨p, e, h⟩ => ⟨p, e, t _ _ h⟩
  | .no, v, ⟨p, e, h⟩ => ⟨p, e, t _ _ h⟩
  | .not a, v, ⟨p, u, e, h, ha⟩ => ⟨p, u, e, t _ _ h, SayAt.keep t ha⟩
  | .bin k a b, v, ⟨p, u, w, e, h, ha, hb⟩ => ⟨p, u, w, e, t _ _ h, SayAt.keep t ha, SayAt.keep t hb⟩
/-- sayings at values, one by one -/
inductive SaysAt (H : Hp) : List Say → List V → Prop
  | nil : SaysAt H [] []
  | cons {s : Say} {v : V} {ss : List Say} {vs : List V} : SayAt H s v → SaysAt H ss vs → SaysAt H (s :: ss) (v :: vs)
theorem SaysAt.keep (t : Tk H H') : ∀ {ss : List Say} {vs : List V}, SaysAt H ss vs → SaysAt H' ss vs
  | _, _, .nil => .nil
  | _, _, .cons a b => .cons (SayAt.keep t a) (SaysAt.keep t b)
theorem SaysAt.length : ∀ {ss : List Say} {vs : List V}, SaysAt H ss vs → ss.length = vs.length
  | _, _, .nil => rfl
  | _, _, .cons a b => congrArg Nat.succ b.length
theorem SaysAt.get : ∀ {ss : List Say} {vs : List V} {i : Nat} {v : V}, SaysAt H ss vs → vs[i]? = some v → ∃ s, ss[i]? = some s ∧ SayAt H s v
  | _, _, i, v, .nil, e => by simp at e
  | _, _, 0, v, .cons a b, e => by
    obtain rfl := Option.some.inj e
    exact ⟨_, rfl, a⟩
  | _, _, i + 1, v, .cons a b, e => b.get (i := i) e
theorem SaysAt.append : ∀ {ss tt : List Say} {vs ws : List V}, SaysAt H ss vs → SaysAt H tt ws → SaysAt H (ss ++ tt) (vs ++ ws)
  | _, _, _, _, .nil, b => b
  | _, _, _, _, .cons a r, b => .cons a (r.append b)
/-- the tuple of a saying -/
theorem SayAt.node : ∀ {s : Say} {v : V}, SayAt H s v → ∃ p items, v = .ref p ∧ H p = some (.tup (.str s.head :: items)) ∧
    ((∃ x, s = .unk x ∧ items = [.str x]) ∨ (s.isUnk = false ∧ SaysAt H s.kids items))
  | .unk x, v, ⟨p, e, h⟩ => ⟨p, _, e, h, .inl ⟨x, rfl, rfl⟩⟩
  | .yes, v, ⟨p, e, h⟩ => ⟨p, _, e, h, .inr ⟨rfl, .nil⟩⟩
  | .no, v, ⟨p, e, h⟩ => ⟨p, _, e, h, .inr ⟨rfl, .nil⟩⟩
  | .not a, v, ⟨p, u, e, h, ha⟩ => ⟨p, _, e, h, .inr ⟨rfl, .cons ha .nil⟩⟩
  | .bin k a b, v, ⟨p, u, w, e, h, ha, hb⟩ => ⟨p, _, e, h, .inr ⟨rfl, .cons ha (.cons hb .nil)⟩⟩
theorem kid_depth : ∀ {s t : Say}, t ∈ s.kids → t.depth < s.depth
  | .not a, t, h => by
    obtain rfl := List.mem_singleton.mp h
    exact Nat.lt_succ_self _
  | .bin k a b, t, h => by
    have e : t = a ∨ t = b := by simpa [Say.kids] using h
    show t.depth < max a.depth b.depth + 1
    rcases e with rfl | rfl <;> omega
theorem kids_le (s : Say) : s.kids.length ≤ 2 := by cases s <;> simp [Say.kids]
theorem mk6_unk : ∀ k : Mk6, ¬ V.str k.str = V.str "unknown" := by
  intro k
  cases k <;> decide +kernel
theorem mk6_not : ∀ k : Mk6, ¬ V.str k.str = V.str "not" := by
  intro k
  cases k <;> decide +kernel
theorem head_unk {s : Say} (h : s.isUnk = false) : ¬ V.str s.head = V.str "unknown" := by
  cases s with
  | unk x => cases h
  | yes => exact (by decide +kernel : ¬ V.str "yes" = V.str "unknown")
  | no => exact (by decide +kernel : ¬ V.str "no" = V.str "unknown")
  | not a => exact (by decide +kernel : ¬ V.str "not" = V.str "unknown")
  | bin k a b => exact mk6_unk k
def marksV : List V := [.str "plus", .str "times", .str "leads", .str "and", .str "or", .str "same"]
def Say.isBin : Say → Bool
  | .bin _ _ _ => true | _ => false
def Say.isNot : Say → Bool
  | .not _ => true | _ => false
theorem mk6_marks : ∀ k : Mk6, inV (.str k.str) marksV = true := by
  intro k
  cases k <;> decide +kernel
theorem in_marks (s : Say) : inV (.str s.head) marksV = s.isBin := by
  cases s with
  | unk x => exact (by decide +kernel : inV (.str "unknown") marksV = false)
  | yes => exact (by decide +kernel : inV (.str "yes") marksV = false)
  | no => exact (by decide +kernel : inV (.str "no") marksV = false)
  | not a => exact (by decide +kernel : inV (.str "not") marksV = false)
  | bin k a b => exact mk6_marks k
theorem head_not (s : Say) : decide (V.str s.head = V.str "not") = s.isNot := by
  cases s with
  | unk x => exact (by decide +kernel : decide (V.str "unknown" = V.str "not") = false)
  | yes => exact (by decide +kernel : decide (V.str "yes" = V.str "not") = false)
  | no => exact (by decide +kernel : decide (V.str "no" = V.str "not") = false)
  | not a => exact (by decide +kernel : decide (V.str "not" = V.str "not") = true)
  | bin k a b => exact decide_eq_false (mk6_not k)
theorem cut_tail (x : V) (xs : List V) : cutV (x :: xs) (some 1) none = xs := by
  unfold cutV
  have e1 : HT.sIx (x :: xs).length 0 (some 1) = 1 := by
    rw [show HT.sIx (x :: xs).length 0 (some 1) = min 1 (x :: xs).length from HT.sIx_nat _ 0 1]
    rw [List.length_cons]
    omega
  rw [e1, HT.sIx_none, List.length_cons, Nat.add_sub_cancel]
  exact List.take_length
theorem inV_strs (x : Str) (fs : List Str) : inV (.str x) (fs.map V.str) = decide (x ∈ fs) := by
  unfold inV
  rw [List.any_map]
  induction fs with
  | nil => rfl
  | cons y r ih =>
    rw [List.any_cons, ih]
    show ((y == x) || decide (x ∈ r)) = decide (x ∈ y :: r)
    by_cases e : x = y
    · subst e
      simp
    · have e' : ¬ y = x := fun z => e z.symm
      simp [e, e']
theorem flat_strs (fs : List Str) : (fs.map V.str).all flatV = true := by
  rw [List.all_map]
  exact List.all_eq_true.mpr fun x _ => rfl
section
variable {K : PySem.W.Frag} {H : Hp} {Q : VK} {a : Addr} {x : V} {xs : List V}
theorem rd_in (hs : SqL K H a xs ∨ SqT K H a xs) (hx : flatV x = true) (hf : xs.all flatV = true) {b : Bool} (hb : inV x xs = b) (h : Q (.bl b) H) : rIn K false x (.ref a) H Q := by
  refine ⟨a, xs, rfl, hs, hx, hf, ?_⟩
  rw [hb]
  exact h
theorem rd_tail (hs : SqT K H a (x :: xs)) (h : ∀ p, H p = none → Q (.ref p) (upd H p (.tup xs))) : rSlT K (.ref a) (some 1) none H Q := by
  refine ⟨a, x :: xs, rfl, hs, ?_, ?_⟩
  · rintro ⟨z, _⟩
    rw [show HT.sIx (x :: xs).length 0 (some 1) = min 1 (x :: xs).length from HT.sIx_nat _ 0 1, List.length_cons] at z
    omega
  · rw [cut_tail]
    exact h
end
def wsum (l : List Say) : Nat := (l.map Say.words).sum
theorem words_kids : ∀ s : Say, s.words = wsum s.kids + 1 := by
  intro s
  cases s <;> simp [Say.words, Say.kids, wsum]
theorem wsum_take {l : List Say} {i : Nat} {k : Say} (h : l[i]? = some k) : wsum (l.take i) + k.words ≤ wsum l := by
  induction l generalizing i with
  | nil => simp at h
  | cons x r ih =>
    cases i with
    | zero =>
      obtain rfl := Option.some.inj h
      show 0 + x.words ≤ x.words + wsum r
      omega
    | succ i =>
      have := ih (i := i) h
      show x.words + wsum (r.take i) + k.words ≤ x.words + wsum r
      omega
theorem names_len : ∀ (s : Say) (f : List Str), (s.namesIn f).length ≤ f.length + s.words
  | .unk x, f => by
    show (if x ∈ f then f else f ++ [x]).length ≤ f.length + 1
    split
    · omega
    · simp
  | .yes, f => Nat.le_add_right _ _
  | .no, f => Nat.le_add_right _ _
  | .not a, f => Nat.le_trans (names_len a f) (by show f.length + a.words ≤ f.length + (a.words + 1); omega)
  | .bin k a b, f => by
    have h1 := names_len a f
    have h2 := names_len b (a.namesIn f)
    show (b.namesIn (a.namesIn f)).length ≤ f.length + (a.words + b.words + 1)
    omega
def foldNames (l : List Say) (f : List Str) : List Str := l.foldl (fun f k => k.namesIn f) f
theorem fold_len (l : List Say) : ∀ f, (foldNames l f).length ≤ f.length + wsum l := by
  induction l with
  | nil => intro f; exact Nat.le_add_right _ _
  | cons x r ih =>
    intro f
    have h1 := ih (x.namesIn f)
    have h2 := names_len x f
    show (foldNames r (x.namesIn f)).length ≤ f.length + (x.words + wsum r)
    omega
theorem fold_more {l : List Say} {i : Nat} {k : Say} (h : l[i]? = some k) (f : List Str) : foldNames (l.take (i + 1)) f = k.namesIn (foldNames (l.take i) f) := by
  unfold foldNames
  rw [List.take_add_one, h, List.foldl_append]
  rfl
theorem names_kids {s : Say} (h : s.isUnk = false) (f : List Str) : s.namesIn f = foldNames s.kids f := by
  cases s with
  | unk x => cases h
  | yes => rfl
  | no => rfl
  | not a => rfl
  | bin k a b => rfl
def Say.heads (s : Say) : List Str := s.all.map Say.head
def Say.flatL : List Say → List Str := fun l => (l.map Say.heads).flatten
def Say.leavesL : List Say → List Str := fun l => (l.map Say.leaves).flatten
def Say.deepL : List Say → Nat := fun l => l.foldl (fun d k => max d (k.depth + 1)) 0
theorem heads_kids (s : Say) : s.heads = s.head :: Say.flatL s.kids := by
  cases s with
  | unk x => rfl
  | yes => rfl
  | no => rfl
  | not a => simp [Say.heads, Say.all, Say.flatL, Say.kids, Say.head]
  | bin k a b => simp [Say.heads, Say.all, Say.flatL, Say.kids, Say.head]
theorem leaves_kids {s : Say} (h : s.isUnk = false) : s.leaves = Say.leavesL s.kids := by
  cases s with
  | unk x => cases h
  | yes => rfl
  | no => rfl
  | not a => simp [Say.leaves, Say.leavesL, Say.kids]
  | bin k a b => simp [Say.leaves, Say.leavesL, Say.kids]
theorem depth_kids (s : Say) : s.depth = Say.deepL s.kids := by
  cases s with
  | unk x => rfl
  | yes => rfl
  | no => rfl
  | not a => show a.depth + 1 = max 0 (a.depth + 1); omega
  | bin k a b => show max a.depth b.depth + 1 = max (max 0 (a.depth + 1)) (b.depth + 1); omega
theorem all_len : ∀ s : Say, s.all.length = s.words
  | .unk x => rfl
  | .yes => rfl
  | .no => rfl
  | .not a => by show a.all.length + 1 = _; rw [all_len a]; rfl
  | .bin k a b => by show (a.all ++ b.all).length + 1 = _; rw [List.length_append, all_len a, all_len b]; rfl
theorem heads_len (s : Say) : s.heads.length = s.words := by
  unfold Say.heads
  rw [List.length_map, all_len]
theorem leaves_len : ∀ s : Say, s.leaves.length ≤ s.words
  | .unk x => Nat.le_refl _
  | .yes => Nat.zero_le _
  | .no => Nat.zero_le _
  | .not a => Nat.le_trans (leaves_len a) (Nat.le_succ _)
  | .bin k a b => by
    have h1 := leaves_len a
    have h2 := leaves_len b
    show (a.leaves ++ b.leaves).length ≤ a.words + b.words + 1
    rw [List.length_append]
    omega
theorem flat_len (l : List Say) : (Say.flatL l).length = wsum l := by
  induction l with
  | nil => rfl
  | cons x r ih =>
    show (x.heads ++ Say.flatL r).length = x.words + wsum r
    rw [List.length_append, heads_len, ih]
theorem leavesL_len (l : List Say) : (Say.leavesL l).length ≤ wsum l := by
  induction l with
  | nil => exact Nat.le_refl _
  | cons x r ih =>
    have h := leaves_len x
    show (x.leaves ++ Say.leavesL r).length ≤ x.words + wsum r
    rw [List.length_append]
    omega
theorem flat_more {l : List Say} {i : Nat} {k : Say} (h : l[i]? = some k) : Say.flatL (l.take (i + 1)) = Say.flatL (l.take i) ++ k.heads := by
  unfold Say.flatL
  rw [List.take_add_one, h, List.map_append, List.flatten_append]
  show _ ++ (k.heads ++ []) = _
  rw [List.append_nil]
theorem leaves_more {l : List Say} {i : Nat} {k : Say} (h : l[i]? = some k) : Say.leavesL (l.take (i + 1)) = Say.leavesL (l.take i) ++ k.leaves := by
  unfold Say.leavesL
  rw [List.take_add_one, h, List.map_append, List.flatten_append]
  show _ ++ (k.leaves ++ []) = _
  rw [List.append_nil]
theorem deep_more {l : List Say} {i : Nat} {k : Say} (h : l[i]? = some k) : Say.deepL (l.take (i + 1)) = max (Say.deepL (l.take i)) (k.depth + 1) := by
  unfold Say.deepL
  rw [List.take_add_one, h, List.foldl_append]
  rfl
def leafV : List V := [.str "unknown", .str "yes", .str "no"]
def Say.isLeaf : Say → Bool
  | .unk _ => true | .yes => true | .no => true | _ => false
theorem mk6_leaf : ∀ k : Mk6, inV (.str k.str) leafV = false := by
  intro k
  cases k <;> decide +kernel
theorem in_leaf (s : Say) : inV (.str s.head) leafV = s.isLeaf := by
  cases s with
  | unk x => exact (by decide +kernel : inV (.str "unknown") leafV = true)
  | yes => exact (by decide +kernel : inV (.str "yes") leafV = true)
  | no => exact (by decide +kernel : inV (.str "no") leafV = true)
  | not a => exact (by decide +kernel : inV (.str "not") leafV = false)
  | bin k a b => exact mk6_leaf k
/-- a test whose answer is a known truth value -/
theorem rd_bool {b : Bool} {A B : Prop} (h1 : b = true → A) (h2 : b = false → B) : if b = true then A else B := by
  cases b with
  | true => exact iteT (h1 rfl)
  | false => exact iteF (h2 rfl)
section
variable {K : PySem.W.Frag} {σ : L2.St} {H : Hp} {Q : VK} {D : Ends} {c : TT} {tb : TS} {a : Addr} {xs ys : List V}
theorem rd_while (W : Nat → L2.St → Hp → Prop) (m0 : Nat) (h0 : W m0 σ H) (hs : ∀ m σ H, W m σ H →
    c σ H fun b H1 => if b = true then ∃ N : L2.St → Hp → Prop, (∀ σ' H', N σ' H' → ∃ m', m' < m ∧ W m' σ' H') ∧ tb { D with nx := N, ct := N, bk := D.nx } σ H1 else D.nx σ H1) :
    tWhile c tb D σ H := ⟨W, ⟨m0, h0⟩, hs⟩
theorem rd_go {W : Nat → L2.St → Hp → Prop} {m : Nat} {P : (L2.St → Hp → Prop) → Prop} {B : Prop} (h : P fun σ' H' => ∃ m', m' < m ∧ W m' σ' H') :
    if true = true then ∃ N : L2.St → Hp → Prop, (∀ σ' H', N σ' H' → ∃ m', m' < m ∧ W m' σ' H') ∧ P N else B := iteT ⟨_, fun _ _ z => z, h⟩
theorem rd_truL {P : Bool → Prop} (h : SqL K H a xs) (q : P (!xs.isEmpty)) : ∃ k, TruV K (.ref a) H k ∧ P k := ⟨_, .inl ⟨xs, h, rfl⟩, q⟩
theorem rd_truT {P : Bool → Prop} (h : SqT K H a xs) (q : P (!xs.isEmpty)) : ∃ k, TruV K (.ref a) H k ∧ P k := ⟨_, .inr (.inl ⟨xs, h, rfl⟩), q⟩
theorem rd_pop {v : V} (h : H a = some (.lst (v :: xs).reverse)) (q : Q v (upd H a (.lst xs.reverse))) : rPop (.ref a) [] H Q := by
  have e : (v :: xs).reverse = xs.reverse ++ [v] := List.reverse_cons
  refine ⟨a, _, v, rfl, rfl, h, ?_, ?_⟩
  · rw [e, List.length_append, List.length_singleton, Nat.add_sub_cancel, List.getElem?_append_right (Nat.le_refl _), Nat.sub_self]
    rfl
  · rw [e, List.dropLast_concat]
    exact q
theorem rd_append {v : V} (h : H a = some (.lst xs)) (hz : xs.length < 1000000) (q : Q .non (upd H a (.lst (xs ++ [v])))) : rAppend (.ref a) [v] H Q :=
  ⟨a, xs, v, rfl, rfl, h, Nat.lt_trans hz (by decide), q⟩
theorem rd_extT {b : Addr} (h : H a = some (.lst xs)) (hb : H b = some (.tup ys)) (hz : xs.length + ys.length ≤ 1000000) (q : Q .non (upd H a (.lst (xs ++ ys)))) : rExtT K (.ref a) [.ref b] H Q :=
  ⟨a, b, xs, ys, rfl, rfl, h, hb, Nat.le_trans hz (by decide), q⟩
theorem rd_revT {te : TE} (h : te σ H fun x H1 => ∃ a xs, x = .ref a ∧ SqT K H1 a xs ∧ ∀ p, H1 p = none → Q (.ref p) (upd H1 p (.tup xs.reverse))) : tRevT K te σ H Q := h
theorem rd_revAt {P : List V → Prop} (h : SqT K H a xs) (q : P xs) : ∃ b ys, V.ref a = .ref b ∧ SqT K H b ys ∧ P ys := ⟨a, xs, rfl, h, q⟩
theorem rd_bm {T : String} {r : V → List V → Hp → VK → Prop} {to : TE} {t : TA} (h : to σ H fun x H1 => tyV K T x H1 ∧ t σ H1 fun xs H2 => r x xs H2 Q) : tBM K T r to t σ H Q := h
theorem rd_bm0 {T : String} {r : V → List V → Hp → VK → Prop} {to : TE} (h : to σ H fun x H1 => tyV K T x H1 ∧ r x [] H1 Q) : tBM0 K T r to σ H Q := h
end
/-- all words of several, one behind the other -/
def allL (l : List Say) : List Say := (l.map Say.all).flatten
theorem all_kids (s : Say) : s.all = s :: allL s.kids := by
  cases s with
  | unk x => rfl
  | yes => rfl
  | no => rfl
  | not a => simp [Say.all, allL, Say.kids]
  | bin k a b => simp [Say.all, allL, Say.kids]
theorem allL_append (l r : List Say) : allL (l ++ r) = allL l ++ allL r := by
  unfold allL
  rw [List.map_append, List.flatten_append]
theorem wsum_append (l r : List Say) : wsum (l ++ r) = wsum l + wsum r := by
  unfold wsum
  rw [List.map_append, List.sum_append_nat]
theorem allL_len (l : List Say) : (allL l).length = wsum l := by
  induction l with
  | nil => rfl
  | cons x r ih =>
    show (x.all ++ allL r).length = x.words + wsum r
    rw [List.length_append, all_len, ih]
theorem words_pos (s : Say) : 0 < s.words := by
  rw [words_kids]
  exact Nat.succ_pos _
theorem len_wsum (l : List Say) : l.length ≤ wsum l := by
  induction l with
  | nil => exact Nat.le_refl _
  | cons x r ih =>
    have := words_pos x
    show r.length + 1 ≤ x.words + wsum r
    omega
theorem count_range {α : Type} (l : List α) (d : α) (f : α → Bool) : ((List.range l.length).filter fun i => f (l.getD i d)).length = (l.filter f).length := by
  induction l with
  | nil => rfl
  | cons x r ih =>
    have e : (fun i => f ((x :: r).getD i d)) ∘ Nat.succ = fun i => f (r.getD i d) := rfl
    rw [List.length_cons, List.range_succ_eq_map, List.filter_cons, List.filter_map, e]
    have e0 : (x :: r).getD 0 d = x := rfl
    rw [e0, List.filter_cons]
    by_cases h : f x = true
    · rw [if_pos h, if_pos h, List.length_cons, List.length_cons, List.length_map, ih]
    · rw [if_neg h, if_neg h, List.length_map, ih]
theorem marks_count : ∀ s : Say, (s.all.filter Say.isBin).length = s.marks
  | .unk x => rfl
  | .yes => rfl
  | .no => rfl
  | .not a => by
    show ((Say.not a :: a.all).filter Say.isBin).length = a.marks
    rw [List.filter_cons_of_neg (show ¬ Say.isBin (.not a) = true from Bool.false_ne_true), marks_count a]
  | .bin k a b => by
    show ((Say.bin k a b :: (a.all ++ b.all)).filter Say.isBin).length = a.marks + b.marks + 1
    rw [List.filter_cons_of_pos (show Say.isBin (.bin k a b) = true from rfl), List.length_cons, List.filter_append, List.length_append, marks_count a, marks_count b]
/-- a text of the six marks -/
theorem mk6_of {v : V} (h : v ∈ ([.str "plus", .str "times", .str "leads", .str "and", .str "or", .str "same", .str "plus", .str "times", .str "leads"] : List V)) : ∃ k : Mk6, v = .str k.str := by
  simp only [List.mem_cons, List.not_mem_nil, or_false] at h
  rcases h with rfl | rfl | rfl | rfl | rfl | rfl | rfl | rfl | rfl
  · exact ⟨.plus, rfl⟩
  · exact ⟨.times, rfl⟩
  · exact ⟨.leads, rfl⟩
  · exact ⟨.and, rfl⟩
  · exact ⟨.or, rfl⟩
  · exact ⟨.same, rfl⟩
  · exact ⟨.plus, rfl⟩
  · exact ⟨.times, rfl⟩
  · exact ⟨.leads, rfl⟩
theorem rd_ints {i j : Int} {A B : Prop} (h1 : i = j → A) (h2 : i ≠ j → B) : if decide (V.int i = V.int j) = true then A else B :=
  rd_two (fun c => h1 (V.int.inj c)) fun c => h2 fun e => c (congrArg V.int e)
end
end Gd

/-! # data that shows well; sayings as data -/
namespace Gd
open PySem PySem.Spec PyProof.Rows L2
mutual
def smallD : PyData → Bool
  | .none => true
  | .bool _ => true
  | .int i => decide (i.natAbs < 10 ^ 11)
  | .str x => PyData.strOk x
  | .list xs => smallDs xs
  | .tuple xs => smallDs xs
  | .dict _ => false
def smallDs : List PyData → Bool
  | [] => true
  | x :: xs => smallD x && smallDs xs
end
mutual
theorem small_lay : ∀ d : PyData, smallD d = true → d.canLay0 = true
  | .none, _ => rfl
  | .bool _, _ => rfl
  | .int _, _ => rfl
  | .str x, h => by rw [smallD] at h; rw [PyData.canLay0]; exact h
  | .list xs, h => by rw [smallD] at h; rw [PyData.canLay0]; exact smalls_lay xs h
  | .tuple xs, h => by rw [smallD] at h; rw [PyData.canLay0]; exact smalls_lay xs h
  | .dict _, h => by rw [smallD] at h; cases h
theorem smalls_lay : ∀ xs : List PyData, smallDs xs = true → PyData.canLayAll0 xs = true
  | [], _ => rfl
  | x :: xs, h => by
    rw [smallDs, Bool.and_eq_true] at h
    rw [PyData.canLayAll0, small_lay x h.1, smalls_lay xs h.2]
    rfl
end
theorem PyData_int_len (i : Int) (h : i.natAbs < 10 ^ 11) : (PyData.shown (.int i)).length ≤ 12 := by
  rw [PyData.shown]
  have := int_text_length_le10 (k := 11) (by decide) h
  rw [PySem.ofString_length]
  exact this
mutual
theorem small_ints : ∀ d : PyData, smallD d = true → d.intsShort 13 = true
  | .none, _ => rfl
  | .bool _, _ => rfl
  | .int i, h => by
    rw [smallD, decide_eq_true_eq] at h
    rw [PyData.intsShort, decide_eq_true_eq]
    exact Nat.le_trans (PyData_int_len i h) (by decide)
  | .str x, h => rfl
  | .list xs, h => by rw [smallD] at h; rw [PyData.intsShort]; exact smalls_ints xs h
  | .tuple xs, h => by rw [smallD] at h; rw [PyData.intsShort]; exact smalls_ints xs h
  | .dict _, h => rfl
theorem smalls_ints : ∀ xs : List PyData, smallDs xs = true → PyData.intsShortAll 13 xs = true
  | [], _ => rfl
  | x :: xs, h => by
    rw [smallDs, Bool.and_eq_true] at h
    rw [PyData.intsShortAll, small_ints x h.1, smalls_ints xs h.2]
    rfl
end
mutual
theorem small_show : ∀ d : PyData, smallD d = true → d.showable = true
  | .none, _ => rfl
  | .bool _, _ => rfl
  | .int i, h => by
    rw [smallD, decide_eq_true_eq] at h
    rw [PyData.showable, decide_eq_true_eq]
    by_cases z : i.natAbs = 0
    · rw [z]; decide
    · refine (Nat.log2_lt z).mpr (Nat.lt_of_lt_of_le h ?_)
      exact Nat.le_trans (show 10 ^ 11 ≤ 2 ^ 64 by decide) (Nat.pow_le_pow_right (by decide) (by decide))
  | .str x, h => rfl
  | .list xs, h => by rw [smallD] at h; rw [PyData.showable]; exact smalls_show xs h
  | .tuple xs, h => by rw [smallD] at h; rw [PyData.showable]; exact smalls_show xs h
  | .dict _, h => by rw [smallD] at h; cases h
theorem smalls_show : ∀ xs : List PyData, smallDs xs = true → PyData.showableAll xs = true
  | [], _ => rfl
  | x :: xs, h => by
    rw [smallDs, Bool.and_eq_true] at h
    rw [PyData.showableAll, small_show x h.1, smalls_show xs h.2]
    rfl
end
section
variable {K : PySem.W.Frag} {H : Hp} {Q : VK} {v x y : V} {d d' : PyData}
theorem rd_repr (hd : Dp K H v d) (h : smallD d = true) (hb : d.bulk ≤ 1000000) (dp : d.depth ≤ 150) (q : Q (.str d.shown) H) : rRepr K [v] H Q :=
  ⟨v, d, rfl, hd, small_show d h, PyData.hasDict_of_canLay d (small_lay d h), dp,
    PyData.shown_fits_bulk (B := 13) (by decide) (by decide) (PyData.leavesShort_of_canLay0 13 d (small_lay d h) (small_ints d h)) (Nat.le_trans hb (by decide)), q⟩
theorem small_shaped (h : smallD d = true) (dp : d.depth ≤ 64) : SeqAt.shaped d = true := by
  show (d.canLay0 && decide (d.depth ≤ 64)) = true
  rw [small_lay d h, decide_eq_true dp]
  rfl
theorem rd_neD (hd : Dp K H x d) (he : Dp K H y d') (h1 : smallD d = true) (h2 : smallD d' = true) (p1 : d.depth ≤ 64) (p2 : d'.depth ≤ 64) (q : Q (.bl (!d.eqv d')) H) : rNeD K x y H Q :=
  ⟨d, d', hd, he, small_shaped h1 p1, small_shaped h2 p2, q⟩
theorem rd_eqD (hd : Dp K H x d) (he : Dp K H y d') (h1 : smallD d = true) (h2 : smallD d' = true) (p1 : d.depth ≤ 64) (p2 : d'.depth ≤ 64) (q : Q (.bl (d.eqv d')) H) : rEqD K x y H Q :=
  ⟨d, d', hd, he, small_shaped h1 p1, small_shaped h2 p2, q⟩
end
section
variable {K : PySem.W.Frag} {H : Hp} {v x y : V} {d d' : PyData}
/-! ### lists of numbers, of texts, of sayings -/
theorem dp_strs (K : PySem.W.Frag) (H : Hp) : ∀ fs : List Str, DpAll K H (fs.map V.str) (fs.map PyData.str)
  | [] => .nil
  | x :: r => .cons (.str x) (dp_strs K H r)
theorem dp_ints (K : PySem.W.Frag) (H : Hp) : ∀ ns : List Int, DpAll K H (ns.map V.int) (ns.map PyData.int)
  | [] => .nil
  | x :: r => .cons (.int x) (dp_ints K H r)
theorem small_strs : ∀ fs : List Str, (∀ x ∈ fs, PyData.strOk x = true) → smallDs (fs.map PyData.str) = true
  | [], _ => rfl
  | x :: r, h => by
    rw [List.map_cons, smallDs, smallD, h x (List.mem_cons_self ..), small_strs r fun y m => h y (List.mem_cons_of_mem _ m)]
    rfl
theorem small_intL : ∀ ns : List Int, (∀ x ∈ ns, x.natAbs < 10 ^ 11) → smallDs (ns.map PyData.int) = true
  | [], _ => rfl
  | x :: r, h => by
    rw [List.map_cons, smallDs, smallD, decide_eq_true (h x (List.mem_cons_self ..)), small_intL r fun y m => h y (List.mem_cons_of_mem _ m)]
    rfl
theorem depth_strs : ∀ fs : List Str, PyData.depthAll (fs.map PyData.str) = 0
  | [] => rfl
  | x :: r => by rw [List.map_cons, PyData.depthAll, PyData.depth, depth_strs r]; rfl
theorem depth_intL : ∀ fs : List Int, PyData.depthAll (fs.map PyData.int) = 0
  | [] => rfl
  | x :: r => by rw [List.map_cons, PyData.depthAll, PyData.depth, depth_intL r]; rfl
theorem bulk_strs : ∀ fs : List Str, (∀ x ∈ fs, x.cps.size ≤ 20) → PyData.bulkAll (fs.map PyData.str) ≤ 21 * fs.length
  | [], _ => Nat.zero_le _
  | x :: r, h => by
    rw [List.map_cons, PyData.bulkAll, PyData.bulk, List.length_cons]
    have h1 := h x (List.mem_cons_self ..)
    have h2 := bulk_strs r fun y m => h y (List.mem_cons_of_mem _ m)
    omega
theorem bulk_intL : ∀ fs : List Int, PyData.bulkAll (fs.map PyData.int) = fs.length
  | [] => rfl
  | x :: r => by
    rw [List.map_cons, PyData.bulkAll, PyData.bulk, List.length_cons, bulk_intL r]
    omega
end
def Say.data : Say → PyData
  | .unk x => .tuple [.str "unknown", .str x]
  | .yes => .tuple [.str "yes"]
  | .no => .tuple [.str "no"]
  | .not a => .tuple [.str "not", a.data]
  | .bin k a b => .tuple [.str k.str, a.data, b.data]
/-- a name whose text is short -/
def okName (x : Str) : Prop := PyData.strOk x = true ∧ x.cps.size ≤ 20
theorem mk6_strOk : ∀ k : Mk6, PyData.strOk k.str = true := by
  intro k
  cases k <;> decide +kernel
theorem mk6_size : ∀ k : Mk6, k.str.cps.size ≤ 5 := by
  intro k
  cases k <;> decide +kernel
theorem SayAt.dp (K : PySem.W.Frag) {H : Hp} : ∀ {s : Say} {v : V}, SayAt H s v → Dp K H v s.data
  | .unk x, v, ⟨p, e, h⟩ => e ▸ .tup (sqT h) (.cons (.str _) (.cons (.str _) .nil))
  | .yes, v, ⟨p, e, h⟩ => e ▸ .tup (sqT h) (.cons (.str _) .nil)
  | .no, v, ⟨p, e, h⟩ => e ▸ .tup (sqT h) (.cons (.str _) .nil)
  | .not a, v, ⟨p, u, e, h, ha⟩ => e ▸ .tup (sqT h) (.cons (.str _) (.cons (SayAt.dp K ha) .nil))
  | .bin k a b, v, ⟨p, u, w, e, h, ha, hb⟩ => e ▸ .tup (sqT h) (.cons (.str _) (.cons (SayAt.dp K ha) (.cons (SayAt.dp K hb) .nil)))
theorem say_small : ∀ s : Say, (∀ x ∈ s.leaves, okName x) → smallD s.data = true
  | .unk x, h => by
    rw [Say.data, smallD, smallDs, smallDs, smallDs, smallD, smallD, (h x (List.mem_singleton.mpr rfl)).1]
    decide +kernel
  | .yes, h => by decide +kernel
  | .no, h => by decide +kernel
  | .not a, h => by
    rw [Say.data, smallD, smallDs, smallDs, smallDs, smallD, say_small a h]
    decide +kernel
  | .bin k a b, h => by
    rw [Say.data, smallD, smallDs, smallDs, smallDs, smallDs, smallD, mk6_strOk, say_small a fun x m => h x (List.mem_append_left _ m), say_small b fun x m => h x (List.mem_append_right _ m)]
    rfl
theorem say_depth : ∀ s : Say, s.data.depth = s.depth + 1
  | .unk x => rfl
  | .yes => rfl
  | .no => rfl
  | .not a => by
    rw [Say.data, PyData.depth, PyData.depthAll, PyData.depthAll, PyData.depthAll, PyData.depth, say_depth a]
    show max 0 (max (a.depth + 1) 0) + 1 = a.depth + 1 + 1
    omega
  | .bin k a b => by
    rw [Say.data, PyData.depth, PyData.depthAll, PyData.depthAll, PyData.depthAll, PyData.depthAll, PyData.depth, say_depth a, say_depth b]
    show max 0 (max (a.depth + 1) (max (b.depth + 1) 0)) + 1 = max a.depth b.depth + 1 + 1
    omega
theorem say_bulk : ∀ s : Say, (∀ x ∈ s.leaves, okName x) → s.data.bulk ≤ 40 * s.words
  | .unk x, h => by
    have h1 := (h x (List.mem_singleton.mpr rfl)).2
    show ((7 + 1) + ((x.cps.size + 1) + 0)) ≤ 40 * 1
    omega
  | .yes, h => by decide +kernel
  | .no, h => by decide +kernel
  | .not a, h => by
    have h1 := say_bulk a h
    show ((3 + 1) + ((a.data.bulk + 1) + 0)) ≤ 40 * (a.words + 1)
    omega
  | .bin k a b, h => by
    have h1 := say_bulk a fun x m => h x (List.mem_append_left _ m)
    have h2 := say_bulk b fun x m => h x (List.mem_append_right _ m)
    have h3 := mk6_size k
    show ((k.str.cps.size + 1) + ((a.data.bulk + 1) + ((b.data.bulk + 1) + 0))) ≤ 40 * (a.words + b.words + 1)
    omega
theorem SaysAt.dp (K : PySem.W.Frag) {H : Hp} : ∀ {ss : List Say} {vs : List V}, SaysAt H ss vs → DpAll K H vs (ss.map Say.data)
  | _, _, .nil => .nil
  | _, _, .cons a b => .cons (a.dp K) (b.dp K)
theorem says_small : ∀ ss : List Say, (∀ s ∈ ss, ∀ x ∈ s.leaves, okName x) → smallDs (ss.map Say.data) = true
  | [], _ => rfl
  | s :: r, h => by
    rw [List.map_cons, smallDs, say_small s (h s (List.mem_cons_self ..)), says_small r fun y m => h y (List.mem_cons_of_mem _ m)]
    rfl
theorem says_depth (n : Nat) : ∀ ss : List Say, (∀ s ∈ ss, s.depth ≤ n) → PyData.depthAll (ss.map Say.data) ≤ n + 1
  | [], _ => Nat.zero_le _
  | s :: r, h => by
    rw [List.map_cons, PyData.depthAll, say_depth]
    have h1 := h s (List.mem_cons_self ..)
    have h2 := says_depth n r fun y m => h y (List.mem_cons_of_mem _ m)
    omega
theorem says_bulk : ∀ ss : List Say, (∀ s ∈ ss, ∀ x ∈ s.leaves, okName x) → PyData.bulkAll (ss.map Say.data) ≤ 41 * wsum ss
  | [], _ => Nat.zero_le _
  | s :: r, h => by
    rw [List.map_cons, PyData.bulkAll]
    have h1 := say_bulk s (h s (List.mem_cons_self ..))
    have h2 := says_bulk r fun y m => h y (List.mem_cons_of_mem _ m)
    have h3 := words_pos s
    show _ ≤ 41 * (s.words + wsum r)
    omega
open Evl in
/-- as lc_src, where the test lays new objects -/
theorem lc_srcA {σ : L2.St} {H1 : Hp} {te : TE} {tt : TT} {vs : List Nat} {j n : Nat} {J : L2.It} {G : Hp → Prop} {Y : Nat → Hp → V → Hp → Prop} {Dl : Addr} {Qd : Hp → Prop} (w : L2.Walk J n G Y) (src : Nat → V)
    (hy : ∀ i H x H', i < n → Y i H x H' → H' = H ∧ x = src i) (f : Nat → Bool) (v : Nat → V) (hn : n ≤ 1000000) (hD : H1 Dl = none)
    (hG : ∀ H', Same H1 H' → G H') (hw : ∀ x, wipe ((wipe σ vs).set j (some x)) vs = wipe σ vs)
    (ht : ∀ i H' (R : Bool → Hp → Prop), i < n → Same H1 H' → (∀ H'', Same H' H'' → R (f i) H'') → tt ((wipe σ vs).set j (some (src i))) H' R)
    (he : ∀ i H' (R : VK), i < n → f i = true → Same H1 H' → (∀ H'', Same H' H'' → R (v i) H'') → te ((wipe σ vs).set j (some (src i))) H' R)
    (hd : ∀ H', Same H1 H' → H' Dl = some (.lst (given n f v)) → Qd H') :
    ∃ W : Nat → Nat → Hp → Prop, (∃ m, W 0 m (upd H1 Dl (.lst []))) ∧ ∀ i m H, W i m H →
      (J.stop i H ∧ Qd H) ∨ (J.go i H ∧ ∃ Nx : Hp → Prop, (∀ H', Nx H' → ∃ m', m' < m ∧ W (i + 1) m' H') ∧
        ∀ x H', J.yld i H x H' → gName j x (wipe σ vs) H' fun σ2 H2 => wipe σ2 vs = wipe σ vs ∧ tt σ2 H2 fun b H3 =>
          if b = true then te σ2 H3 fun y H4 => ∃ acc, H4 Dl = some (.lst acc) ∧ acc.length < sizeLine ∧ Nx (upd H4 Dl (.lst (acc ++ [y]))) else Nx H3) := by
  refine lc_it w (fun i H' => Same H1 H' ∧ H' Dl = some (.lst (given i f v))) ⟨Same.new hD _, upd_same⟩ (fun i H' _ p => hG H' p.1) ?_ fun H' p => hd H' p.1 p.2
  intro i x H H' hi p y
  obtain ⟨rfl, rfl⟩ := hy i H x H' hi y
  refine ⟨hw _, ht i H' _ hi p.1 fun H0 s0 => ?_⟩
  have p' : Same H1 H0 ∧ H0 Dl = some (.lst (given i f v)) := ⟨p.1.trans s0, s0 _ _ p.2⟩
  cases hf : f i with
  | false =>
    refine iteF ⟨p'.1, ?_⟩
    rw [given_no hf]
    exact p'.2
  | true =>
    refine iteT (he i H0 _ hi hf p'.1 fun H'' s => ⟨given i f v, s _ _ p'.2, ?_, ?_, ?_⟩)
    · have := given_len i f v
      rw [sizeLine_eq]
      omega
    · exact Same.put (p'.1.trans s) hD _
    · rw [given_yes hf]
      exact upd_same
def atName (x : Str) : Say → Bool
  | .unk y => decide (y = x) | _ => false
theorem filter_leaves (x : Str) : ∀ s : Say, (s.leaves.filter fun y => decide (y = x)).length = (s.all.filter (atName x)).length
  | .unk y => by
    show (([y] : List Str).filter fun y => decide (y = x)).length = (([.unk y] : List Say).filter (atName x)).length
    by_cases c : y = x <;> simp [List.filter, c, atName]
  | .yes => rfl
  | .no => rfl
  | .not a => filter_leaves x a
  | .bin k a b => by
    show ((a.leaves ++ b.leaves).filter _).length = ((Say.bin k a b :: (a.all ++ b.all)).filter _).length
    rw [List.filter_cons_of_neg (show ¬ atName x (.bin k a b) = true from Bool.false_ne_true), List.filter_append, List.filter_append, List.length_append, List.length_append, filter_leaves x a, filter_leaves x b]
theorem marks_le : ∀ s : Say, s.marks ≤ s.words
  | .unk x => Nat.zero_le _
  | .yes => Nat.zero_le _
  | .no => Nat.zero_le _
  | .not a => Nat.le_trans (marks_le a) (Nat.le_succ _)
  | .bin k a b => by
    have h1 := marks_le a
    have h2 := marks_le b
    show a.marks + b.marks + 1 ≤ a.words + b.words + 1
    omega
/-- repr of a new tuple of whole numbers -/
theorem rd_reprI {K : PySem.W.Frag} {H : Hp} {Q : VK} {p : Addr} (ns : List Int) (h : H p = some (.tup (ns.map V.int))) (hs : ∀ x ∈ ns, x.natAbs < 10 ^ 11) (hl : ns.length ≤ 1000000)
    (q : Q (.str (PyData.tuple (ns.map PyData.int)).shown) H) : rRepr K [.ref p] H Q := by
  refine rd_repr (.tup (sqT h) (dp_ints K H ns)) ?_ ?_ ?_ q
  · rw [smallD]; exact small_intL ns hs
  · rw [PyData.bulk, bulk_intL]; exact hl
  · rw [PyData.depth, depth_intL]; decide
theorem rd_repr1 {K : PySem.W.Frag} {H : Hp} {Q : VK} {i : Int} (hs : i.natAbs < 10 ^ 11) (q : Q (.str (PyData.int i).shown) H) : rRepr K [.int i] H Q := by
  refine rd_repr (.int i) ?_ ?_ ?_ q
  · rw [smallD]; exact decide_eq_true hs
  · exact Nat.zero_le _
  · exact Nat.zero_le _
theorem rd_reprS {K : PySem.W.Frag} {H : Hp} {Q : VK} {p : Addr} (fs : List Str) (h : H p = some (.tup (fs.map V.str))) (hs : ∀ x ∈ fs, okName x) (hl : fs.length ≤ 10000)
    (q : Q (.str (PyData.tuple (fs.map PyData.str)).shown) H) : rRepr K [.ref p] H Q := by
  refine rd_repr (.tup (sqT h) (dp_strs K H fs)) ?_ ?_ ?_ q
  · rw [smallD]; exact small_strs fs fun x m => (hs x m).1
  · rw [PyData.bulk]
    have := bulk_strs fs fun x m => (hs x m).2
    omega
  · rw [PyData.depth, depth_strs]; decide
theorem rd_same {K : PySem.W.Frag} {x : V} {A B : Prop} (q : A) : if decide (x = x) = true then A else B := rd_true rfl q
/-- two texts that are one: no difference -/
theorem rd_neq {x : V} {A B : Prop} (q : B) : if (!decide (x = x)) = true then A else B := by
  rw [decide_eq_true rfl]
  exact iteF q
end Gd

/-! # the program's exceptions -/
namespace Gd
open PySem PySem.Spec PyProof.Rows L2
section
variable {X : Cx} {o e : Expr} {es : List Expr} {to te : TE} {ta : TA} {f : Str} {p p' p1 p2 pos : Pos}
/-- D.__init__(self, ..), where D has none of its own and stands over ValueError -/
theorem pe_binit {x : Str} {D : Addr} {pl : Sem Bool} (hg : Gl X x) (hm : X.mg x = some (.ref D))
    (hS : PySem.W.specialIn X.K (.ref D) "__getattribute__" = some (some (.builtin "type.__getattribute__"))) (hR : PySem.W.readsIn X.K D (.type "type") = true)
    (vV : PySem.W.findCls X.K (.ref D) (.type "type") "__init__" = some (.val (.builtin "ValueError.__init__"))) (ha : PA X (e :: es) ta)
    (hdb : (x == ("__debug__" : Str)) = false := by decide)
    (hc : eval (.Call (.Attribute (.Name x p1) "__init__" p2) (e :: es) [] pos) X.env = (do
      let ov ← eval (.Name x p1) X.env
      standAt p2.atName
      let (f, first) ← holding [ov] (getMethod ov "__init__" pl)
      callWith pos f first (backTo pos (starEach (e :: es) X.env)) (backToKw pos (keywordEach [] X.env))) := by rfl)
    (he : starEach (e :: es) X.env = (false, eval e X.env) :: starEach es X.env := by rfl) (hpl : (backTo pos (starEach es X.env)).any (·.1) = false := by rfl) :
    PE X (.Call (.Attribute (.Name x p1) "__init__" p2) (e :: es) [] pos) (tVeI X.K ta) := by
  refine ⟨fun pins s σ H Q I h => ?_⟩
  refine PySem.W.methodCall_KW (ld_glob I hg hm ?_ hdb) hc
  refine PySem.W.method_cls I.kIn hS (PySem.W.cls_value I.kIn hR vV (by decide +kernel) ?_)
  show wpAny _ _ (callWith pos (Value.builtin "ValueError.__init__") [] (backTo pos (starEach (e :: es) X.env)) []) _ _ _
  refine PyProof.Rows.callWith_method1 (thn (ha.run pos pins _ σ H _ (I.tok _) h) fun us s1 ⟨vs, H1, I1, r1, a, C, ws, ev, hl, T, ea, q⟩ => ?_) he hpl
  subst ev
  cases r1 with
  | @cons _ u0 _ ur ra rw' =>
    obtain rfl : u0 = Value.ref a := ra
    have hlen : ur.length ≤ sizeLine := by
      rw [← Paired.length rw', sizeLine_eq]
      omega
    exact oinit_ok T I1 ea hlen fun s' J => ⟨.non, H1, J, rfl, q⟩
end
/-- an own __init__: the base's, then one field -/
def spInitX (C : Addr) (f : Str) : Sp := fun vs H Q _ => ∃ (a : Addr) (v : V), vs = [.ref a, v] ∧ H a = some (exo a C none) ∧
  ∀ dx, H dx = none → dx ≠ a → Q .non (upd (upd H dx (exd dx [(f, v)])) a (exo a C (some dx)))
section
variable {K : PySem.W.Frag} {σ : L2.St} {H : Hp} {Q : VK} {D : Ends} {ta : TA} {to te : TE} {f : Str}
theorem rd_vei (h : ta σ H fun vs H1 => ∃ (a C : Addr) (ws : List V), vs = .ref a :: ws ∧ ws.length ≤ 1000 ∧ OexC K C ∧ H1 a = some (exo a C none) ∧ Q .non H1) : tVeI K ta σ H Q := h
theorem rd_ost (h : te σ H fun y H1 => to σ H1 fun x H2 => ∃ a C : Addr, x = .ref a ∧ OexC K C ∧ PySem.W.findIn K (.ref C) f = some none ∧
  ((H2 a = some (exo a C none) ∧ ∀ dx, H2 dx = none → dx ≠ a → D.nx σ (upd (upd H2 dx (exd dx [(f, y)])) a (exo a C (some dx)))) ∨
    ∃ (dx : Addr) (fs : List (Str × V)), H2 a = some (exo a C (some dx)) ∧ H2 dx = some (exd dx fs) ∧ fs.length ≤ 900 ∧ D.nx σ (upd H2 dx (exd dx ((f, y) :: fs))))) : tOst K f to te D σ H := h
/-- raise C(v): what is known of the heap behind it -/
theorem rd_raise {C : Addr} {v : V} {X : XK} (h : ∀ d H', Same H H' → H d = none → H' d = some (.xd [(f, v)]) → X (.ref C) (some d) H') :
    ([v] : List V).length ≤ 1000 ∧ ∀ a, H a = none → spInitX C f (.ref a :: ([v] ++ [])) (upd H a (exo a C none))
      (fun u H2 => u = .non ∧ ∃ (d : Addr) (fs : List (Str × V)), H2 a = some (exo a C (some d)) ∧ H2 d = some (exd d fs) ∧ H d = none ∧ X (.ref C) (some d) (upd (del H2 a) d (.xd fs))) (fun _ _ _ => False) := by
  refine ⟨by show 1 ≤ 1000; decide, fun a na => ⟨a, v, rfl, upd_same, fun dx nd ne => ⟨rfl, dx, [(f, v)], upd_same, ?_, ?_, ?_⟩⟩⟩
  · rw [upd_ne ne, upd_same]
  · rw [upd_ne ne] at nd
    exact nd
  · rw [upd_ne ne] at nd
    refine h dx _ (fun b o e => ?_) nd upd_same
    have hb : b ≠ dx := ne_of_none e nd
    have ha : b ≠ a := ne_of_none e na
    rw [upd_ne hb, del_ne ha, upd_ne ha, upd_ne hb, upd_ne ha]
    exact e
theorem rd_mko {C : Addr} {sp : Sp} {dvs : List V} {X : XK} (h : ta σ H fun vs H1 => vs.length ≤ 1000 ∧ ∀ a, H1 a = none → sp (.ref a :: (vs ++ dvs)) (upd H1 a (exo a C none))
  (fun v H2 => v = .non ∧ ∃ (d : Addr) (fs : List (Str × V)), H2 a = some (exo a C (some d)) ∧ H2 d = some (exd d fs) ∧ H1 d = none ∧ X (.ref C) (some d) (upd (del H2 a) d (.xd fs))) (fun _ _ _ => False)) : tMkO C sp dvs ta σ H X := h
theorem rd_callS {sp : Sp} {E : L2.St → XK} (h : ta σ H fun vs H1 => sp vs H1 Q (E σ)) : tCallS sp E ta σ H Q := h
end
end Gd

/-! # a tuple so many times, none and once among them -/
namespace Gd
open PySem PySem.Spec PyProof.Rows L2
theorem tuple_mul0 (l : Addr) (items : Array Value) (n : Nat) (dd : Option Addr) (sl : Array (Option Value)) (x : Int) (u : Tok) (c0 : (decide (x < -(2 ^ 63)) || decide (x ≥ 2 ^ 63)) = false) (c1 : (items.isEmpty || x == 1) = false) (c2 : (decide (x ≤ 0) || items.isEmpty) = true) :
    Meets (Builtin.«tuple.__mul__» ⟨[.ref l, .int x u], []⟩) (fun _ R s => s.heap.get? l = some { cls := .type "tuple", dict := dd, data := .seq items n, slots := sl } ∧
      R (.ok (.ret (Value.ref s.heap.objs.size))) { s with heap := s.heap.push { cls := Value.type "tuple", data := Data.seq #[] }, toks := s.toks }) :=
  .of_wp fun prog w A R s h => by
    obtain ⟨hp, g, d, tk, os⟩ := s
    obtain ⟨hl, h⟩ := h
    have f1 := AutoSeq1.idx_int
    wp_walk using wpAny_loadPart' hl
    repeat (first
      | (refine wpAny_ite_false (decide_eq_false (by rw [c0]; exact Bool.false_ne_true)) ?_; wp_walk using wpAny_loadPart' hl)
      | (refine wpAny_ite_false (decide_eq_false (by rw [c1]; exact Bool.false_ne_true)) ?_; wp_walk using wpAny_loadPart' hl)
      | (refine wpAny_ite_true (decide_eq_true (by rw [c2])) ?_; wp_walk using wpAny_loadPart' hl))
    exact ⟨_, rfl, h⟩
theorem tuple_mul1 (l : Addr) (items : Array Value) (n : Nat) (dd : Option Addr) (sl : Array (Option Value)) (u : Tok) :
    Meets (Builtin.«tuple.__mul__» ⟨[.ref l, .int 1 u], []⟩) (fun _ R s => s.heap.get? l = some { cls := .type "tuple", dict := dd, data := .seq items n, slots := sl } ∧
      R (.ok (.ret (Value.ref l))) s) :=
  .of_wp fun prog w A R s h => by
    obtain ⟨hp, g, d, tk, os⟩ := s
    obtain ⟨hl, h⟩ := h
    have f1 := AutoSeq1.idx_int
    have c1 : (items.isEmpty || (1 : Int) == 1) = true := by rw [show ((1 : Int) == 1) = true from rfl, Bool.or_true]
    wp_walk using wpAny_loadPart' hl
    repeat (first
      | (refine wpAny_ite_false (decide_eq_false (by decide)) ?_; wp_walk using wpAny_loadPart' hl)
      | (refine wpAny_ite_true (decide_eq_true (by rw [c1])) ?_; wp_walk using wpAny_loadPart' hl))
    exact ⟨_, rfl, h⟩
def rRepA (K : PySem.W.Frag) : R2 := fun x y H Q => ∃ l k xs, x = .ref l ∧ y = .int k ∧ SqT K H l xs ∧ xs ≠ [] ∧ 0 ≤ k ∧ k ≤ 1000 ∧ xs.length ≤ 1000 ∧ (k = 1 → Q (.ref l) H) ∧ (k ≠ 1 → ∀ p, H p = none → Q (.ref p) (upd H p (.tup (List.replicate k.toNat xs).flatten)))
theorem op_repA {X : Cx} : OpR X (binaryOp .Mult) (rRepA X.K) := by
  intro pins s σ H x y v u Q I rx ry h
  obtain ⟨l, k, xs, rfl, rfl, hT, hne, h0, h2, hz, q1, q⟩ := h
  by_cases h2' : 2 ≤ k
  · exact op_repT pins s σ H _ _ v u Q I rx ry ⟨l, k, xs, rfl, rfl, hT, hne, h2', h2, hz, q (by omega)⟩
  cases rx
  obtain ⟨t, rfl⟩ := ry
  obtain ⟨its, r, ⟨⟨cls, dd, data, sl⟩, ho, hc, n, hd⟩, hs⟩ := I.tuple hT
  simp only at hc hd
  subst hc hd
  have hle : its.length = xs.length := r.length.symm
  have hn : its ≠ [] := fun e => hne (by
    rw [e] at hle
    exact List.eq_nil_of_length_eq_zero hle.symm)
  have hi : its.toArray.isEmpty = false := by
    cases its with
    | nil => exact absurd rfl hn
    | cons a b => rfl
  have c0 : (decide (k < -(2 ^ 63)) || decide (k ≥ 2 ^ 63)) = false := by
    rw [decide_eq_false (by omega), decide_eq_false (by omega)] <;> rfl
  by_cases hk : k = 1
  · subst hk
    refine wpAny_binaryOp_repeat_ref (T := "tuple") (U := "int") (by decide) ⟨_, ho, rfl⟩ (fun s' => typeIs_int s' 1 t) noFill_tuple_mul F.fills_int_mul F.slot_int_rmul repeat_tuple F.slot_int_index.lookup
      (call_meets F.slot_int_rmul (typeIs_int s 1 t) F.entry_int_rmul (F.args_int_rmul_2 _ _) (int_rmul_tuple 1 t l its.toArray n dd sl)
        ⟨ho, rfl, ⟨_, ho, rfl⟩, call_meets F.slot_tuple_mul ⟨_, ho, rfl⟩ F.entry_tuple_mul (F.args_tuple_mul_2 _ _) (tuple_mul1 l its.toArray n dd sl t) ⟨ho, ?_⟩⟩)
    exact ⟨.ref l, H, I, rfl, q1 rfl⟩
  · have hk0 : k = 0 := by omega
    subst hk0
    have c1 : (its.toArray.isEmpty || (0 : Int) == 1) = false := by
      rw [hi]
      rfl
    have c2 : (decide ((0 : Int) ≤ 0) || its.toArray.isEmpty) = true := by
      rw [decide_eq_true (Int.le_refl 0)]
      rfl
    refine wpAny_binaryOp_repeat_ref (T := "tuple") (U := "int") (by decide) ⟨_, ho, rfl⟩ (fun s' => typeIs_int s' 0 t) noFill_tuple_mul F.fills_int_mul F.slot_int_rmul repeat_tuple F.slot_int_index.lookup
      (call_meets F.slot_int_rmul (typeIs_int s 0 t) F.entry_int_rmul (F.args_int_rmul_2 _ _) (int_rmul_tuple 0 t l its.toArray n dd sl)
        ⟨ho, rfl, ⟨_, ho, rfl⟩, call_meets F.slot_tuple_mul ⟨_, ho, rfl⟩ F.entry_tuple_mul (F.args_tuple_mul_2 _ _) (tuple_mul0 l its.toArray n dd sl 0 t c0 c1 c2) ⟨ho, ?_⟩⟩)
    refine ⟨.ref s.heap.objs.size, _, I.laid (t' := s.toks) (o := .tup []) (fun b ob q => Heap.get?_push_of_some _ q) (Nat.le_refl _) ?_, rfl, q (by decide) _ (I.hok.fresh (Nat.le_refl _))⟩
    exact ⟨Nat.zero_le _, [], .nil, IsTup.new _ _⟩
theorem rep_one (v : V) : ∀ n : Nat, (List.replicate n [v]).flatten = List.replicate n v
  | 0 => rfl
  | n + 1 => by
    rw [List.replicate_succ, List.flatten_cons, rep_one v n]
    rfl
section
variable {K : PySem.W.Frag} {H : Hp} {Q : VK} {a b l : Addr} {xs ys : List V} {v : V} {k : Nat}
/-- (v,) * k: at least the tuple of k -/
theorem rd_rep1 (h : SqT K H l [v]) (hk : k ≤ 1000) (q : ∀ p H', Same H H' → SqT K H' p (List.replicate k v) → Q (.ref p) H') : rRepA K (.ref l) (.int (k : Int)) H Q := by
  refine ⟨l, k, [v], rfl, rfl, h, List.cons_ne_nil _ _, by omega, by omega, by show 1 ≤ 1000; decide, fun e => ?_, fun _ p np => ?_⟩
  · have e' : k = 1 := by omega
    subst e'
    exact q l H (Same.refl _) h
  · refine q p _ (Same.new np _) ?_
    rw [Int.toNat_natCast, rep_one]
    exact sqT upd_same
/-- one tuple behind another -/
theorem rd_catT (hx : SqT K H a xs) (hy : SqT K H b ys) (hn : xs ≠ []) (hz : xs.length + ys.length ≤ 1000000) (q : ∀ p H', Same H H' → SqT K H' p (xs ++ ys) → Q (.ref p) H') : rCatT K (.ref a) (.ref b) H Q := by
  refine ⟨a, b, xs, ys, rfl, rfl, hx, hy, hn, Nat.le_trans hz (by decide), fun e => ?_, fun _ p np => ?_⟩
  · subst e
    refine q a H (Same.refl _) ?_
    rw [List.append_nil]
    exact hx
  · exact q p _ (Same.new np _) (sqT upd_same)
end
theorem op_catTK {X : Cx} (K : PySem.W.Frag) (h : X.K = K := by rfl) : OpR X (binaryOp .Add) (rCatT K) := h ▸ op_catT
theorem op_repK {X : Cx} (K : PySem.W.Frag) (h : X.K = K := by rfl) : OpR X (binaryOp .Mult) (rRepA K) := h ▸ op_repA
theorem isiK {X : Cx} (K : PySem.W.Frag) (h : X.K = K := by rfl) : CallR X (.builtin "isinstance") (rIsi K) := h ▸ call_isi
theorem rd_isi {K : PySem.W.Frag} {H : Hp} {Q : VK} {x : V} {a n : String} {b : Bool} (ty : TyX K H x (.type a)) (h : kitB a n = some b) (q : Q (.bl b) H) : rIsi K [x, .ty n] H Q :=
  ⟨x, .ty n, .type a, .type n, b, rfl, .ty n, ty, kit_ty h, q⟩
theorem log2_small {i : Int} (h : i.natAbs < 10 ^ 40) : i.natAbs.log2 < 140 := by
  by_cases z : i.natAbs = 0
  · rw [z]; decide
  · exact (Nat.log2_lt z).mpr (Nat.lt_of_lt_of_le h (by decide))
theorem mulB_ok {i j : Int} (h1 : i.natAbs < 10 ^ 40) (h2 : j.natAbs < 10 ^ 40) : CMulB i j := by
  have a := log2_small h1
  have b := log2_small h2
  show i.natAbs.log2 + j.natAbs.log2 < 100000000
  omega
end Gd

/-! # whole numbers in rows; common measures -/
namespace Gd
open PySem PySem.Spec PyProof.Rows L2
def rLcm : List V → Hp → VK → Prop := fun vs H Q => ∃ a b : Int, vs = [.int a, .int b] ∧ a.natAbs < 2 ^ 64 ∧ b.natAbs < 2 ^ 64 ∧ Q (.int ((Nat.lcm a.natAbs b.natAbs : Nat) : Int)) H
theorem cr_lcm {X : Cx} : CallR X (.builtin "math.lcm") rLcm := by
  intro pins s σ H vs us Q I r h
  obtain ⟨a, b, rfl, ha, hb, q⟩ := h
  obtain ⟨t, u, rfl⟩ := Vals.int2 r
  exact PySem.W.mc_lcm ha hb fun _ => ⟨.int _, H, I.tok _, ⟨_, rfl⟩, q⟩
theorem tup_indexK {X : Cx} (K : PySem.W.Frag) (h : X.K = K := by rfl) : MtR X "tuple.index" (fun x xs H Q => ∃ p, ∃ ys : List Str, ∃ z j, x = .ref p ∧ xs = [.str z] ∧ SqT K H p (ys.map V.str) ∧ ys[j]? = some z ∧ (∀ m, m < j → ys[m]? ≠ some z) ∧ Q (.int (j : Nat)) H) := h ▸ mt_tup_index
theorem rd_aug {i : Nat} {te : TE} {ti : TIp} {D : Ends} {σ : L2.St} {H : Hp} {x : V} (e : σ[i]? = some (some x)) (h : te σ H fun y H1 => ti x y H1 fun z H2 => D.nx (σ.set i (some z)) H2) : tAug i te ti D σ H := ⟨x, e, h⟩
theorem rd_ipI {f : Int → Int → Int} {i j : Int} {H : Hp} {Q : VK} (q : Q (.int (f i j)) H) : ipI f (.int i) (.int j) H Q := ⟨i, j, rfl, rfl, q⟩
theorem wint_at {xs : List Int} {i : Nat} {x : V} (h : (xs.map V.int)[i]? = some x) : ∃ n, x = .int n ∧ xs[i]? = some n := by
  rw [List.getElem?_map] at h
  cases e : xs[i]? with
  | none => rw [e] at h; cases h
  | some n => rw [e] at h; exact ⟨n, (Option.some.inj h).symm, rfl⟩
theorem wint_get {xs : List Int} {i : Nat} (hi : i < xs.length) : (xs.map V.int).getD i .non = V.int (xs.getD i 0) := by
  rw [List.getD_eq_getElem?_getD, List.getD_eq_getElem?_getD, List.getElem?_map, List.getElem?_eq_getElem hi]
  rfl
theorem wzip_at (f : Int → Int → Int) {xs ys : List Int} {i : Nat} {x y : Int} (hx : xs[i]? = some x) (hy : ys[i]? = some y) : (List.zipWith f xs ys).getD i 0 = f x y := by
  rw [List.getD_eq_getElem?_getD, List.getElem?_zipWith, hx, hy]
  rfl
theorem wrange (l : List Int) : (List.range l.length).map (fun i => V.int (l.getD i 0)) = l.map V.int := by
  refine List.ext_getElem? fun i => ?_
  rw [List.getElem?_map, List.getElem?_map]
  by_cases h : i < l.length
  · rw [List.getElem?_range h, List.getElem?_eq_getElem h]
    show some (V.int (l.getD i 0)) = some (V.int l[i])
    rw [List.getD_eq_getElem?_getD, List.getElem?_eq_getElem h]
    rfl
  · rw [List.getElem?_eq_none (by rw [List.length_range]; omega), List.getElem?_eq_none (by omega)]
    rfl
theorem wrange_zip (f : Int → Int → Int) {xs ys : List Int} (h : xs.length = ys.length) : (List.range xs.length).map (fun i => V.int ((List.zipWith f xs ys).getD i 0)) = (List.zipWith f xs ys).map V.int := by
  have e : (List.zipWith f xs ys).length = xs.length := by rw [List.length_zipWith, h, Nat.min_self]
  rw [← e]
  exact wrange _
open Evl in
theorem given_all (n : Nat) (l : List Int) (h : l.length = n) : given n (fun _ => true) (fun i => V.int (l.getD i 0)) = l.map V.int := by
  unfold given
  rw [List.filter_eq_self.mpr (fun _ _ => rfl), ← h]
  exact wrange l
/-! ### pairs in a row: fractions -/
inductive PrsAt (K : PySem.W.Frag) (H : Hp) : List (Int × Int) → List V → Prop
  | nil : PrsAt K H [] []
  | cons {a b : Int} {p : Addr} {ps : List (Int × Int)} {vs : List V} : SqT K H p [.int a, .int b] → PrsAt K H ps vs → PrsAt K H ((a, b) :: ps) (.ref p :: vs)
section
variable {K : PySem.W.Frag} {H H' : Hp}
theorem PrsAt.keep (h : ∀ p xs, SqT K H p xs → SqT K H' p xs) : ∀ {ps : List (Int × Int)} {vs : List V}, PrsAt K H ps vs → PrsAt K H' ps vs
  | _, _, .nil => .nil
  | _, _, .cons a b => .cons (h _ _ a) (b.keep h)
theorem PrsAt.length : ∀ {ps : List (Int × Int)} {vs : List V}, PrsAt K H ps vs → ps.length = vs.length
  | _, _, .nil => rfl
  | _, _, .cons a b => congrArg Nat.succ b.length
theorem PrsAt.get : ∀ {ps : List (Int × Int)} {vs : List V} {i : Nat} {v : V}, PrsAt K H ps vs → vs[i]? = some v → ∃ a b p, ps[i]? = some (a, b) ∧ v = .ref p ∧ SqT K H p [.int a, .int b]
  | _, _, i, v, .nil, e => by simp at e
  | _, _, 0, v, .cons a b, e => by
    obtain rfl := Option.some.inj e
    exact ⟨_, _, _, rfl, rfl, a⟩
  | _, _, i + 1, v, .cons a b, e => b.get (i := i) e
theorem PrsAt.append : ∀ {ps qs : List (Int × Int)} {vs ws : List V}, PrsAt K H ps vs → PrsAt K H qs ws → PrsAt K H (ps ++ qs) (vs ++ ws)
  | _, _, _, _, .nil, b => b
  | _, _, _, _, .cons a r, b => .cons a (r.append b)
end
section
variable {K : PySem.W.Frag} {σ : L2.St} {H : Hp} {g : TG} {tb : TS} {a b : Addr} {xs ys : List V}
theorem forZ {Nx : L2.St → Hp → Prop} {Rt : VK} (hl : xs.length = ys.length) (Pv : Nat → L2.St → Hp → Prop) (h0 : Pv 0 σ H) (hq : ∀ i σ H, Pv i σ H → SqT K H a xs ∧ SqT K H b ys)
    (hs : ∀ (i : Nat) (x y : V) (T : Addr) (σ : L2.St) (H : Hp), xs[i]? = some x → ys[i]? = some y → Pv i σ H → H T = none → g (.ref T) σ (upd H T (.tup [x, y])) fun σ2 H2 => tb { nx := Pv (i + 1), rt := Rt, ct := Pv (i + 1), bk := Nx } σ2 H2) (hd : ∀ σ H, Pv xs.length σ H → Nx σ H) :
    ∃ W : Nat → Nat → L2.St → Hp → Prop, (∃ m, W 0 m σ H) ∧ ∀ i m σ H, W i m σ H →
      ((RZ.ItzT K a b).stop i H ∧ Nx σ H) ∨ ((RZ.ItzT K a b).go i H ∧ ∃ N : L2.St → Hp → Prop, (∀ σ' H', N σ' H' → ∃ m', m' < m ∧ W (i + 1) m' σ' H') ∧ ∀ v H', (RZ.ItzT K a b).yld i H v H' → g v σ H' fun σ2 H2 => tb { nx := N, rt := Rt, bk := Nx, ct := N } σ2 H2) :=
  RZ.for_zipT (D := { nx := Nx, rt := Rt }) hl Pv h0 hq hs hd
end
/-! ### a tuple that was just made from a list: its object is known -/
theorem tuple_frzK {X : Cx} (K : PySem.W.Frag) (hK : X.K = K := by rfl) : CallR X (.type "tuple") (fun xs H Q => ∃ p ys, xs = [.ref p] ∧ SqL K H p ys ∧ ∀ (l : Addr) (ob : Obj), H l = none → ob.dict = none → Q (.ref l) (upd H l (.frz ob (.tup ys)))) := by
  subst hK
  intro pins s σ H xs us Q I r h
  obtain ⟨p, ys, rfl, hq, q⟩ := h
  obtain ⟨u, rfl, rx⟩ := vals1 r
  cases rx
  obtain ⟨its, r', pl, hz⟩ := I.list hq
  have hlen := r'.length
  refine call_tuple_list pl.isList (fun h' kp => ?_) (by simp only [List.size_toArray] <;> omega)
  have I1 : Inv X pins σ H { s with heap := h' } := I.kept (t' := s.toks) kp
  have hget : (h'.push { cls := .type "tuple", data := .seq its.toArray }).get? h'.objs.size = some { cls := .type "tuple", data := .seq its.toArray } := by heap_get
  have I2 : Inv X pins σ (upd H h'.objs.size (.frz { cls := .type "tuple", data := .seq its.toArray } (.tup ys))) { s with heap := h'.push { cls := .type "tuple", data := .seq its.toArray } } :=
    I1.laid (t' := s.toks) (fun b o e => Heap.get?_push_of_some _ e) (Nat.le_refl _) (show ObjOk X.prog X.w _ _ _ (.frz { cls := .type "tuple", data := .seq its.toArray } (.tup ys)) from ⟨hget, hz, its, r', IsTup.new _ _⟩)
  exact ⟨.ref h'.objs.size, _, I2, rfl, q _ _ (I1.hok.fresh (Nat.le_refl _)) rfl⟩
def tBMF (r : V → List V → Hp → VK → Prop) (to : TE) (t : TA) : TE := fun σ H Q => to σ H fun x H1 => (∃ (a : Addr) (ob : Obj) (xs : List V), x = .ref a ∧ H1 a = some (.frz ob (.tup xs)) ∧ ob.dict = none) ∧ t σ H1 fun xs H2 => r x xs H2 Q
theorem pe_bmF {X : Cx} {o e : Expr} {es : List Expr} {to : TE} {t : TA} {name : Str} {apos cpos : Pos} {id : String} {r : V → List V → Hp → VK → Prop} (pa : PlainAttrs "tuple") (slot : Slot "tuple" name id) (hty : typeOf (.builtin id) = pure (.type "method_descriptor")) (hm : MtR X id r) (ho : PE X o to) (ha : PA X (e :: es) t)
    (hbase : attributeBase o name X.env (eval o X.env) = eval o X.env := by rfl)
    (hfew : ((backTo cpos (starEach (e :: es) X.env)).all (fun x => !x.1) && (backToKw cpos (keywordEach [] X.env)).all (fun x => x.1.isSome)
      && decide ((e :: es).length + ([] : List Keyword).length + (if ([] : List Keyword).isEmpty then 0 else 1) < 30)) = true := by rfl)
    (hline : (apos.endLine == cpos.line) = true := by rfl) (hs : starEach (e :: es) X.env = (false, eval e X.env) :: starEach es X.env := by rfl) (hplain : (backTo cpos (starEach es X.env)).any (·.1) = false := by rfl) :
    PE X (.Call (.Attribute o name apos) (e :: es) [] cpos) (tBMF r to t) := by
  refine ⟨fun pins s σ H Q I h => ?_⟩
  refine wpAny_Call_method_late hbase hfew hline rfl (thn (ho.run pins s σ H _ I h) fun v s1 ⟨x, H1, I1, r1, ⟨a, ob, ys, ex, ea, hd⟩, q1⟩ => ?_)
  subst ex
  obtain rfl : v = Value.ref a := r1
  obtain ⟨e0, _, its, _, ⟨o2, e2, c2, _⟩⟩ := (show ObjOk X.prog X.w H1 s1.heap a (.frz ob (.tup ys)) from I1.hok a _ ea)
  rw [e0] at e2
  obtain rfl := Option.some.inj e2
  refine ⟨"tuple", id, pa, slot, hty, ⟨ob, e0, c2⟩, (fun b e => by cases e; exact ⟨ob, e0, hd⟩), ?_⟩
  have hA := ha.run cpos pins s1 σ H1 _ I1 q1
  rw [hs] at hA ⊢
  refine Calls.callWith_builtin (by show (false || (backTo cpos (starEach es X.env)).any (·.1)) = false; rw [hplain] <;> rfl) (Calls.evalArgs_plain ?_)
  exact thn hA fun us s2 ⟨vs, H2, I2, r2, q2⟩ => hm pins s2 σ H2 (.ref a) vs _ us Q I2 rfl r2 q2
theorem rd_bmF {r : V → List V → Hp → VK → Prop} {to : TE} {t : TA} {σ : L2.St} {H : Hp} {Q : VK} (h : to σ H fun x H1 => (∃ (a : Addr) (ob : Obj) (xs : List V), x = .ref a ∧ H1 a = some (.frz ob (.tup xs)) ∧ ob.dict = none) ∧ t σ H1 fun xs H2 => r x xs H2 Q) : tBMF r to t σ H Q := h
end Gd

/-! # zip of a list and a tuple -/
namespace Gd
open PySem PySem.Spec PyProof.Rows L2
/-- the list at a and the tuple at b, as they stand at each turn, the items in new pairs -/
def ItzM (K : PySem.W.Frag) (a b : Addr) : It where
  go i H := ∃ (xs ys : List V) (x y : V), SqL K H a xs ∧ SqT K H b ys ∧ xs[i]? = some x ∧ ys[i]? = some y
  yld i H v H' := ∃ (T : Addr) (x y : V), v = .ref T ∧ H T = none ∧ H' = upd H T (.tup [x, y]) ∧ (∀ xs, SqL K H a xs → xs[i]? = some x) ∧ ∀ ys, SqT K H b ys → ys[i]? = some y
  stop i H := ∃ xs ys : List V, SqL K H a xs ∧ SqT K H b ys ∧ i = min xs.length ys.length
/-- the five cells of a zip laid at N, over what stood below -/
def znM (N a b : Addr) : Nat → Heap → Prop := fun i h => IsZip h (N + 4) (N + 2) (N + 3) .none ∧ IsTupOf2 h (N + 2) (.ref N) (.ref (N + 1)) ∧ (∃ u v, IsTupOf2 h (N + 3) u v) ∧ h.IsListIter N a i ∧ h.IsTupleIter (N + 1) b i
theorem five {N c : Addr} (h : c ∈ ([N + 4, N + 2, N + 3, N, N + 1] : List Addr)) : c = N + 4 ∨ c = N + 2 ∨ c = N + 3 ∨ c = N ∨ c = N + 1 := by simpa using h
theorem four {N c : Addr} (h : c ∈ ([N + 4, N + 3, N, N + 1] : List Addr)) : c ∈ ([N + 4, N + 2, N + 3, N, N + 1] : List Addr) := by
  simp only [List.mem_cons, List.not_mem_nil, or_false] at h ⊢
  rcases h with h | h | h | h
  · exact .inl h
  · exact .inr (.inr (.inl h))
  · exact .inr (.inr (.inr (.inl h)))
  · exact .inr (.inr (.inr (.inr h)))
theorem turn_zipM {P : Program} {w : World} {K : PySem.W.Frag} {elts : List Expr} {kk : Nat} {tpos : Pos} {N a b : Addr} (ha : a < N) (hb : b < N) :
    Turn P w K (.Tuple elts kk tpos) (ItzM K a b) [N + 4, N + 2, N + 3, N, N + 1] (N + 4) (znM N a b) where
  mem := List.mem_cons_self ..
  obj := by
    rintro i h ⟨hz, hT, ⟨u, v, hO⟩, ⟨o1, e1, _, d1⟩, ⟨o2, e2, _, d2⟩⟩ c hc
    rcases five hc with rfl | rfl | rfl | rfl | rfl
    · exact ⟨_, hz, fun v q => nomatch q⟩
    · exact ⟨_, hT, fun v q => nomatch q⟩
    · exact ⟨_, hO, fun v q => nomatch q⟩
    · exact ⟨o1, e1, fun v q => by rw [d1] at q; cases q⟩
    · exact ⟨o2, e2, fun v q => by rw [d2] at q; cases q⟩
  keep := by
    rintro i h h' ⟨hz, hT, ⟨u, v, hO⟩, h1, h2⟩ k
    exact ⟨k _ (by simp) _ hz, k _ (by simp) _ hT, ⟨u, v, k _ (by simp) _ hO⟩, h1.at fun o q => k _ (by simp) o q, h2.at fun o q => k _ (by simp) o q⟩
  item := by
    rintro X rfl rfl rfl hc i pins s σ H E I hf ⟨hz, hT, hO, h1, h2⟩ ⟨xs, ys, x, y, hx, hy, ex, ey⟩
    obtain ⟨its, rv, p1, _⟩ := I.list hx
    obtain ⟨jts, rw', p2, _⟩ := I.tuple hy
    obtain ⟨u, hu, ru⟩ := rv.get ex
    obtain ⟨v, hv, rv2⟩ := rw'.get ey
    have hh : X.A.in1.handled = none := I.ok.hd hc
    have S : ZipSep2 (N + 4) (N + 2) (N + 3) N (N + 1) [N, a] [N + 1, b] := zip_sep2 (fp1 := [a]) (fp2 := [b]) (fun c hc => by rw [List.mem_singleton.mp hc]; exact ha) (fun c hc => by rw [List.mem_singleton.mp hc]; exact hb)
    have D1 := Draws.list (prog := X.prog) (w := X.w) (A := X.A.in1) hh N a (Nat.ne_of_lt ha) its.toArray
    have D2 := Draws.tuple (prog := X.prog) (w := X.w) (A := X.A.in1) hh (N + 1) b (Nat.ne_of_lt (Nat.lt_succ_of_lt hb)) jts.toArray
    have G := GoesN.zip2 (elts := elts) (x1 := kk) (pos := tpos) S D1 D2
    have li : i < its.length := (List.getElem?_eq_some_iff.mp hu).1
    have lj : i < jts.length := (List.getElem?_eq_some_iff.mp hv).1
    have IT : s.heap.IsTuple b jts.toArray := p2
    refine G.goes i s _ E (by rw [List.size_toArray, List.size_toArray]; omega) ⟨hz, hT, hO, ⟨h1, p1.isList⟩, ⟨h2, IT⟩⟩ fun r h' tk hY st hk _ => ?_
    obtain ⟨T, x', y', rfl, hnew, hx', hy', hTT⟩ := hY
    have exu : x' = u := Option.some.inj ((show some x' = some u by rw [← hx', ← hu]; simp))
    have eyv : y' = v := Option.some.inj ((show some y' = some v by rw [← hy', ← hv]; simp))
    subst exu
    subst eyv
    have new : ObjOk X.prog X.w (upd H T (.tup [x, y])) h' T (.tup [x, y]) := ⟨by show 2 ≤ sizeLine; decide, [x', y'], .cons ru (.cons rv2 .nil), hTT⟩
    have J := I.turnedNew (t' := tk) (ch := [N + 4, N + 2, N + 3, N, N + 1]) (fun c o hcc q => hk c o (fun z => hcc (four z)) q) hf hnew new
    refine ⟨.ref T, _, J, rfl, ⟨T, x, y, rfl, I.hok.fresh hnew, rfl, fun l hl => by rw [I.list_inj hl hx]; exact ex, fun l hl => by rw [I.tuple_inj hl hy]; exact ey⟩, ⟨st.1, st.2.1, st.2.2.1, st.2.2.2.1.1, st.2.2.2.2.1⟩, fun c hcm => ?_⟩
    have hlt : c < s.heap.objs.size := by
      obtain ⟨o1, e1, _⟩ := h1
      obtain ⟨o2, e2, _⟩ := h2
      obtain ⟨u0, v0, e3⟩ := hO
      rcases five hcm with rfl | rfl | rfl | rfl | rfl
      · exact Heap.lt_size hz
      · exact Heap.lt_size hT
      · exact Heap.lt_size e3
      · exact Heap.lt_size e1
      · exact Heap.lt_size e2
    rw [upd_ne (Nat.ne_of_lt (Nat.lt_of_lt_of_le hlt hnew))]
    exact (hf c hcm).1
  done := by
    rintro X rfl rfl rfl hc i pins s σ H E I hf ⟨hz, hT, hO, h1, h2⟩ ⟨xs, ys, hx, hy, rfl⟩
    obtain ⟨its, rv, p1, _⟩ := I.list hx
    obtain ⟨jts, rw', p2, _⟩ := I.tuple hy
    have hh : X.A.in1.handled = none := I.ok.hd hc
    have S : ZipSep2 (N + 4) (N + 2) (N + 3) N (N + 1) [N, a] [N + 1, b] := zip_sep2 (fp1 := [a]) (fp2 := [b]) (fun c hc => by rw [List.mem_singleton.mp hc]; exact ha) (fun c hc => by rw [List.mem_singleton.mp hc]; exact hb)
    have D1 := Draws.list (prog := X.prog) (w := X.w) (A := X.A.in1) hh N a (Nat.ne_of_lt ha) its.toArray
    have D2 := Draws.tuple (prog := X.prog) (w := X.w) (A := X.A.in1) hh (N + 1) b (Nat.ne_of_lt (Nat.lt_succ_of_lt hb)) jts.toArray
    have G := GoesN.zip2 (elts := elts) (x1 := kk) (pos := tpos) S D1 D2
    have IT : s.heap.IsTuple b jts.toArray := p2
    have e : min xs.length ys.length = min its.toArray.size jts.toArray.size := by rw [List.size_toArray, List.size_toArray, rv.length, rw'.length]
    rw [e] at h1 h2
    exact G.stops s _ E ⟨hz, hT, hO, ⟨h1, p1.isList⟩, ⟨h2, IT⟩⟩ fun h' tk hk _ => I.turnedL (t' := tk) (ch := [N + 4, N + 2, N + 3, N, N + 1]) (fun c o hcc q => hk c o (fun z => hcc (four z)) q) hf
  self := fun A i s Q E st h => wpAny_pyIter_zip st.1 h
def iZipM (K : PySem.W.Frag) (ta : TA) : TI := fun σ H R => ta σ H fun vs H1 => ∃ (a b : Addr) (xs ys : List V), vs = [.ref a, .ref b] ∧ SqL K H1 a xs ∧ SqT K H1 b ys ∧ R (ItzM K a b) H1
theorem pi_zipM {X : Cx} {e e2 : Expr} {ta : TA} {p pos tpos : Pos} {elts : List Expr} {kk : Nat} (hg : Gl X "zip") (hm : X.mg "zip" = none) (ha : PA X [e, e2] ta)
    (hs : starEach [e, e2] X.env = (false, eval e X.env) :: starEach [e2] X.env := by rfl) (hpl : (backTo pos (starEach [e2] X.env)).any (·.1) = false := by rfl) :
    PI X (.Tuple elts kk tpos) (.Call (.Name "zip" p) [e, e2] [] pos) (iZipM X.K ta) := by
  refine ⟨fun pins s σ H R I h => ?_⟩
  refine Call_ (ld_blt I hg hm PyProof.Rows.boot_zip (PyProof.Rows.callWith_type1 (thn (ha.run pos pins s σ H _ I h) fun us s1 hh => ?_) hs hpl))
  obtain ⟨vs, H1, I1, r1, a, b, xs, ys, rfl, hqx, hqy, q⟩ := hh
  obtain ⟨u, v, rfl, r, r'⟩ := vals2 r1
  cases r
  cases r'
  obtain ⟨its, rv, p1, _⟩ := I1.list hqx
  obtain ⟨jts, rv2, p2, _⟩ := I1.tuple hqy
  obtain ⟨o2, ho2, _⟩ := id p2
  have IT : s1.heap.IsTuple b jts.toArray := p2
  have f5 : ∀ c, c ∈ ([s1.heap.objs.size + 4, s1.heap.objs.size + 2, s1.heap.objs.size + 3, s1.heap.objs.size, s1.heap.objs.size + 1] : List Addr) → FpOk X pins H1 c := fun c hcm => by
    have hle : s1.heap.objs.size ≤ c := by
      rcases five hcm with rfl | rfl | rfl | rfl | rfl
      · exact Nat.le_add_right _ _
      · exact Nat.le_add_right _ _
      · exact Nat.le_add_right _ _
      · exact Nat.le_refl _
      · exact Nat.le_add_right _ _
    exact I1.fpOk hle (I1.hok.fresh hle)
  refine zip_begins2 (begins_list a its.toArray) (begins_tuple b jts.toArray) p1.isList IT fun h' hz hT hO g1 g2 _ hk => wpAny_pyIter_zip hz ?_
  exact ⟨s1.heap.objs.size + 4, _, _, _, H1, rfl, I1.kept (t' := s1.toks) hk, turn_zipM p1.lt (Heap.lt_size ho2), ⟨hz, hT, ⟨_, _, hO⟩, ⟨_, g1, rfl, rfl⟩, ⟨_, g2, rfl, rfl⟩⟩, f5, q⟩
section
variable {K : PySem.W.Frag} {σ : L2.St} {H H1 : Hp} {ts : TA} {te : TE} {vs : List Nat} {a b : Addr} {xs ys : List V} {i1 i2 : Nat}
theorem rd_iZM {R : It → Hp → Prop} (h : ts σ H fun vs H1 => ∃ (a b : Addr) (xs ys : List V), vs = [.ref a, .ref b] ∧ SqL K H1 a xs ∧ SqT K H1 b ys ∧ R (ItzM K a b) H1) : iZipM K ts σ H R := h
theorem rd_atM {P : Addr → Addr → Prop} (h : SqL K H a xs) (h' : SqT K H b ys) (q : P a b) : ∃ (c d : Addr) (zs ws : List V), [V.ref a, V.ref b] = [.ref c, .ref d] ∧ SqL K H c zs ∧ SqT K H d ws ∧ P c d := ⟨a, b, xs, ys, rfl, h, h', q⟩
theorem walk_zipM {n : Nat} (hn : n = min xs.length ys.length) : Walk (ItzM K a b) n (fun H => SqL K H a xs ∧ SqT K H b ys)
    (fun i H v H' => ∃ (T : Addr) (x y : V), v = .ref T ∧ H T = none ∧ H' = upd H T (.tup [x, y]) ∧ xs[i]? = some x ∧ ys[i]? = some y) := by
  subst hn
  refine ⟨fun i _ hi q => ?_, fun _ q => ⟨xs, ys, q.1, q.2, rfl⟩, fun i H v H' _ q y => ?_⟩
  · have h1 : i < xs.length := by omega
    have h2 : i < ys.length := by omega
    exact ⟨xs, ys, xs[i], ys[i], q.1, q.2, List.getElem?_eq_getElem h1, List.getElem?_eq_getElem h2⟩
  · obtain ⟨T, x, z, h1, h2, h3, h4, h5⟩ := y
    exact ⟨T, x, z, h1, h2, h3, h4 xs q.1, h5 ys q.2⟩
open Evl in
theorem lc_zipM {Dl : Addr} {Qd : Hp → Prop} (v : Nat → V) (hl : xs.length = ys.length) (hn : xs.length ≤ 1000000) (hD : H1 Dl = none)
    (hx : H1 a = some (.lst xs)) (hy : SqT K H1 b ys) (hw : ∀ x y, wipe (((wipe σ vs).set i1 (some x)).set i2 (some y)) vs = wipe σ vs)
    (he : ∀ i x y H' (R : VK), xs[i]? = some x → ys[i]? = some y → Same H1 H' → (∀ H'', Same H' H'' → R (v i) H'') →
      te (((wipe σ vs).set i1 (some x)).set i2 (some y)) H' R)
    (hd : ∀ H', Same H1 H' → H' Dl = some (.lst ((List.range xs.length).map v)) → Qd H') :
    ∃ W : Nat → Nat → Hp → Prop, (∃ m, W 0 m (upd H1 Dl (.lst []))) ∧ ∀ i m H, W i m H →
      ((ItzM K a b).stop i H ∧ Qd H) ∨ ((ItzM K a b).go i H ∧ ∃ Nx : Hp → Prop, (∀ H', Nx H' → ∃ m', m' < m ∧ W (i + 1) m' H') ∧
        ∀ x H', (ItzM K a b).yld i H x H' → gTup K 2 (gCons (gName i1) (gCons (gName i2) gNil)) x (wipe σ vs) H' fun σ2 H2 => wipe σ2 vs = wipe σ vs ∧ tYes σ2 H2 fun b H3 =>
          if b = true then te σ2 H3 fun y H4 => ∃ acc, H4 Dl = some (.lst acc) ∧ acc.length < sizeLine ∧ Nx (upd H4 Dl (.lst (acc ++ [y]))) else Nx H3) := by
  refine lc_it (walk_zipM (n := xs.length) (xs := xs) (ys := ys) (by omega)) (fun i H' => Same H1 H' ∧ H' Dl = some (.lst ((List.range i).map v)))
    ⟨Same.new hD _, upd_same⟩ (fun i H' _ p => ⟨sqL (p.1 _ _ hx), p.1.seqT hy⟩) ?_ fun H' p => hd H' p.1 p.2
  rintro i z H H' hi ⟨s, e⟩ ⟨T, x, y, rfl, nT, rfl, ex, ey⟩
  have s' : Same H1 (upd H T (.tup [x, y])) := s.trans (Same.new nT _)
  have nDT : Dl ≠ T := ne_of_none e nT
  refine rd_gtup (xs := [x, y]) (sqT upd_same) rfl (rd_gcons (rd_gname (rd_gcons (rd_gname (rd_gnil ⟨hw x y, ?_⟩)))))
  refine rd_yes (iteT (he i x y _ _ ex ey s' fun H'' s'' => ⟨(List.range i).map v, s'' _ _ (by rw [upd_ne nDT]; exact e), ?_, ?_, ?_⟩))
  · rw [List.length_map, List.length_range, sizeLine_eq]
    omega
  · exact Same.put (s'.trans s'') hD _
  · rw [upd_same, List.range_succ, List.map_append]
    rfl
end
end Gd

/-! # super().__init__(..) in an own exception over another own one -/
namespace Gd
open PySem PySem.Spec PyProof.Rows L2
/-- a def that closes over its class and nothing else -/
structure SupScope (N P : List Str) (sc : Scope) : Prop where
  kd : sc.kind = .function
  c0 : sc.isCoroutine = false
  g0 : sc.isGenerator = false
  nd : N.Nodup
  fst : N.take P.length = P
  loc : ∀ x ∈ P, sc.names.lookup x = some .local
  noc : ∀ y ∈ sc.names, y.2 ≠ .cell
  one : ∀ y ∈ sc.names, y.2 = .free → y.1 = "__class__"
  sup : sc.names.lookup ("super" : Str) = some .globalImplicit
  cls : sc.names.lookup ("__class__" : Str) = some .free
/-- such a def as it stands behind the top: its cell holds the class at C -/
structure SupFun (P : Program) (K : PySem.W.Frag) (C : Addr) (qual : Str) (st : Stmt) (f : Addr) (fd : FuncData) : Prop where
  ex : ∃ (oc : Value) (od : Option Addr) (kV dc pm : Value) (an : Option Addr) (cda cc : Addr) (ct : Value) (sl : Array (Option Value)),
    fd = PySem.W.ksFn "__init__" qual (defArgs st) (defBody st) (defScope st) .none kV dc pm an (.ref cda) ct cc ∧ K.lookup f = some ⟨oc, od, .func fd, sl⟩ ∧ PySem.W.codeIn K (.ref cda) qual = true ∧
    (∃ (cl : Value) (cd : Option Addr) (cs : Array (Option Value)), K.lookup cc = some ⟨cl, cd, .cell (some (.ref C)), cs⟩) ∧
    ∃ (ccl : Value) (cdd : Option Addr) (vs : Array Value) (ccs : Array (Option Value)) (file : Str) (tf : Tok), K.lookup cda = some ⟨ccl, cdd, .fields vs, ccs⟩ ∧ vs[2]? = some (.str file tf) ∧ ((P.main.file : Str) == file) = true
  kp : PySem.W.keepIn K (.ref f) = true
/-- what the written part says of the class at C -/
structure SupC (P : Program) (K : PySem.W.Frag) (C : Addr) : Prop where
  cls : ∃ cd, PySem.W.clsIn K C = some cd
  sub : PySem.W.mroIn K C (.ref C) = some true
  val : PySem.W.subIn K (.ref C) (.type "ValueError") = some true
  met : PySem.W.ks_superIn K C C "__init__" = some (some (.builtin "ValueError.__init__"))
  opq : PySem.W.nsIn K cStatics "thirdparty.any" = some none
  top : (P.main.scope.names.lookup ("super" : Str)).isSome = false
section
variable {P : Program} {w : World} {K : PySem.W.Frag} {mg : Str → Option Value} {base : Heap}
theorem back_look {y : Str} {u : Value} : ∀ {ps : List Str} {us : List Value} {i : Nat}, ps.Nodup → ps[i]? = some y → us[i]? = some u → (ps.zip us).reverse.lookup y = some u := by
  intro ps us i nd hp hu
  have hm : (y, u) ∈ (ps.zip us).reverse := by
    rw [List.mem_reverse]
    exact List.mem_of_getElem? (i := i) (List.getElem?_zip_eq_some.mpr ⟨hp, hu⟩)
  cases h : (ps.zip us).reverse.lookup y with
  | none =>
    have := List.lookup_eq_none_iff.mp h _ hm
    simp at this
  | some v =>
    have hv := PySem.mem_of_lookup h
    rw [List.mem_reverse] at hv
    obtain ⟨j, hj⟩ := List.mem_iff_getElem?.mp hv
    obtain ⟨a, b⟩ := List.getElem?_zip_eq_some.mp hj
    have : j = i := by
      have h1 := (List.getElem?_eq_some_iff.mp a)
      have h2 := (List.getElem?_eq_some_iff.mp hp)
      obtain ⟨l1, e1⟩ := h1
      obtain ⟨l2, e2⟩ := h2
      exact (List.getElem_inj nd).mp (e1.trans e2.symm)
    subst this
    rw [b] at hu
    exact hu
/-- the surroundings of such a def's body -/
def cxS (P : Program) (w : World) (K : PySem.W.Frag) (mg : Str → Option Value) (base : Heap) (N : List Str) (qual : Str) (sc : Scope) (f cc : Addr) (cd : Value) (A : Around) (outer : List Env) (s : Shared) (H : Hp) : Cx :=
  { prog := P, w := w, K := K, mg := mg, base := base, A := A.deeper (PySem.W.ksEnv qual sc s.heap.objs.size f cd cc), N := N, s_0 := s, H_0 := H, env := PySem.W.ksEnv qual sc s.heap.objs.size f cd cc,
    outer := outer, stack := PySem.W.ksEnv qual sc s.heap.objs.size f cd cc :: outer, ex := [], calm := true, fn := fun _ => false, pn := [], xe := fun _ _ => False }
theorem inv_sup {N ps : List Str} {qual : Str} {sc : Scope} {f cc : Addr} {cd : Value} {A : Around} {outer : List Env} {s : Shared} {H : Hp} {us : List Value} {vs : List V} {h0 : Heap} {tk : Nat}
    (S : SupScope N ps sc) (hd : A.handled = none) (e0 : Env0 P w K mg base A outer s H) (hl : vs.length = ps.length) (r : Vals vs us)
    (hc : ∃ (o : Obj) (v : Option Value), K.lookup cc = some o ∧ o.data = .cell v)
    (hn : h0.Ns s.heap.objs.size fun x => (ps.zip us).reverse.lookup x) (hk : ∀ b o, s.heap.get? b = some o → h0.get? b = some o) :
    Inv (cxS P w K mg base N qual sc f cc cd A outer s H) [] (start N vs) H { s with heap := h0, toks := tk } := by
  obtain ⟨oc, vc, lc, dc⟩ := hc
  have bc : base.get? cc = some oc := e0.mod.kin _ _ lc
  have many : ps.length ≤ N.length := by
    have q := congrArg List.length S.fst
    rw [List.length_take] at q
    omega
  have onlyc : ∀ x c, (PySem.W.ksEnv qual sc s.heap.objs.size f cd cc).cells.lookup x = some c → x = "__class__" ∧ c = cc := by
    intro x c h
    have h' : ([(("__class__" : Str), cc)] : List (Str × Addr)).lookup x = some c := h
    have m := PySem.mem_of_lookup h'
    rw [List.mem_singleton] at m
    exact ⟨congrArg Prod.fst m, congrArg Prod.snd m⟩
  constructor
  case ok =>
    constructor
    case mod => exact e0.mod
    case kind => exact S.kd
    case glob => rfl
    case blt => rfl
    case above => exact Nat.le_refl _
    case inj =>
      intro x y c h1 h2
      rw [(onlyc x c h1).1, (onlyc y c h2).1]
    case has =>
      intro x hx
      have hx : sc.names.lookup x = some .cell ∨ sc.names.lookup x = some .free := hx
      rcases hx with hx | hx
      · exact absurd rfl (S.noc _ (PySem.mem_of_lookup hx))
      · have e := S.one _ (PySem.mem_of_lookup hx) rfl
        have e : x = "__class__" := e
        subst e
        exact ⟨cc, rfl⟩
    case cab => intro x c z; exact Bool.noConfusion (show false = true from z)
    case hd => exact fun _ => hd
    case frames => exact Around.frames_deeper e0.frames
    case stk => exact .inr ⟨rfl, rfl⟩
    case exf => intro b z; exact absurd (show b ∈ ([] : List Addr) from z) (by simp)
    case bs => exact e0.bs
    case bsz => exact e0.bsz
    case noex => intro b o _ z; exact absurd (show b ∈ ([] : List Addr) from z) (by simp)
    case exfs => intro b z; exact absurd (show b ∈ ([] : List Addr) from z) (by simp)
    case funs => exact e0.funs
    case frf => exact e0.frf
  case os => rfl
  case bare => exact e0.bare
  case base => exact Un.kept hk
  case loc =>
    refine ⟨_, hn, fun i y v h1 h2 h3 => ?_⟩
    have hi : i < vs.length := by
      unfold L2.start at h2
      by_cases hi : i < vs.length
      · exact hi
      · rw [List.getElem?_append_right (by simpa using hi), List.getElem?_replicate] at h2
        split at h2 <;> cases h2
    have ha : vs[i]? = some v := by
      unfold L2.start at h2
      rw [List.getElem?_append_left (by simpa using hi), List.getElem?_map] at h2
      cases e : vs[i]? with
      | none => rw [e] at h2; cases h2
      | some z => rw [e] at h2; cases h2; rfl
    obtain ⟨u, hu, rv⟩ := r.get ha
    have hp : ps[i]? = some y := by
      rw [← S.fst, List.getElem?_take_of_lt (by omega)]
      exact h1
    have ndp : ps.Nodup := by
      rw [← S.fst]
      exact S.nd.sublist (List.take_sublist _ _)
    exact ⟨u, rv, .inl ⟨S.loc y (List.mem_of_getElem? hp), back_look ndp hp hu⟩⟩
  case cell =>
    intro x c h
    rw [(onlyc x c h).2]
    exact ⟨vc, oc, hk _ _ (e0.bs _ _ bc).1, dc⟩
  case free => exact e0.hok.fresh (Nat.le_refl _)
  case freeC =>
    intro x c h
    rw [(onlyc x c h).2]
    exact (e0.bs _ _ bc).2
  case pin => intro p hp; exact absurd (show p ∈ ([] : List (Addr × Obj)) from hp) (by simp)
  case hok => exact e0.hok.kept hk
  case len =>
    unfold L2.start
    show _ = N.length
    rw [List.length_append, List.length_map, List.length_replicate]
    omega
end
section
variable {P : Program} {w : World} {K : PySem.W.Frag} {mg : Str → Option Value} {base : Heap}
/-- the bound __init__ of ValueError, called: the exception's args are laid anew -/
theorem call_sup {X : Cx} {pins : List (Addr × Obj)} {σ : L2.St} {H : Hp} {s : Shared} {a C u : Addr} {us : List Value} {A : Around} {Q E : Value → Shared → Prop} (T : OexC X.K C) (I : Inv X ((u, PySem.W.kxs_mw "ValueError.__init__" a) :: pins) σ H s)
    (e : H a = some (exo a C none)) (hl : us.length ≤ sizeLine) (h : ∀ s', Inv X pins σ H s' → Q .none s') : wpAny (model X.prog X.w) A (call (.ref u) us) Q E s := by
  obtain ⟨nm, q, N, bs, bm, sn, sub, ab, col, dd, k0, k1, k2, k3, k5, hC, hbm⟩ := T.cls
  obtain ⟨t1, ho⟩ := exo_at I.hok e
  have hu : s.heap.get? u = some (PySem.W.kxs_mw "ValueError.__init__" a) := ClX.pin_at I
  have J := ClX.unpin I
  have cC := J.kIn _ _ hC
  obtain ⟨hp, g, d, t, os⟩ := s
  have eu : upd H a (exo a C none) = H := by
    funext b
    by_cases hb : b = a
    · rw [hb, upd_same, e]
    · rw [upd_ne hb]
  have y1 : (Value.type "method-wrapper" == Value.type "method") = false := by decide
  have y2 : (Value.type "method-wrapper" == Value.type "builtin_function_or_method") = false := by decide
  have y3 : (Value.type "method-wrapper" == Value.type "method-wrapper") = true := by decide
  refine wpAny_call (codeAny_of_tree ?_)
  show wpAny (model X.prog X.w) A.in1 (callAny (.ref u) ⟨us, []⟩) _ _ ⟨hp, g, d, t, os⟩
  unfold callAny
  refine wpAny_bind (wpAny_load hu ?_)
  dsimp only
  rw [y1, y2, y3]
  rw [if_pos (by rfl)]
  refine PySem.W.KFB.if_so (by decide) ?_
  have FV := PySem.F.excBase_ValueError
  refine wpAny_bind (PySem.W.check_bound_init FV.toExcCallFacts cC ho rfl ?_)
  refine wpAny_bind (wpAny_pure (wpAny_pure ?_))
  refine ⟨plainId_quiet FV.init.plain _, codeAny_builtin FV.initEntry ?_⟩
  refine PySem.W.exc_init_tree (cls := .ref C) (t0 := t1) (dv := none) (c2 := .none) (c3 := .none) (b4 := .bool false) ho hl fun h' k hx _ => ?_
  have W := J.write (t' := t) (x := a) (e := a) (o := exo a C none) (by rw [e]; exact True.intro) (.inl rfl) k ⟨_, hx⟩ (exo_ok hx)
  rw [eu] at W
  exact h _ W
theorem sup_step {N ps : List Str} {qual : Str} {sc : Scope} {f cc cda : Addr} {A : Around} {outer : List Env} {s0 s : Shared} {H0 H : Hp} {σ : L2.St} {st : Stmt} {kV dc pm ct oc : Value} {an od : Option Addr} {sl : Array (Option Value)}
    {a C : Addr} {p0 p1 p2 p3 p4 : Pos} {ar : Arg} {e : Expr} {es : List Expr} {ta : TA} {R : Hp → Prop} {body : List Stmt}
    (S : SupScope N ps sc) (T : OexC K C) (FC : SupC P K C) (hm : mg "super" = none)
    (lk : K.lookup f = some ⟨oc, od, .func (PySem.W.ksFn "__init__" qual (defArgs st) (defBody st) (defScope st) .none kV dc pm an (.ref cda) ct cc), sl⟩)
    (hcell : ∃ (cl : Value) (cd : Option Addr) (cs : Array (Option Value)), K.lookup cc = some ⟨cl, cd, .cell (some (.ref C)), cs⟩)
    (hcode : ∃ (ccl : Value) (cdd : Option Addr) (vs : Array Value) (ccs : Array (Option Value)) (file : Str) (tf : Tok), K.lookup cda = some ⟨ccl, cdd, .fields vs, ccs⟩ ∧ vs[2]? = some (.str file tf) ∧ ((P.main.file : Str) == file) = true)
    (hf : ((defArgs st).posonlyargs ++ (defArgs st).args).head? = some ar) (h0 : ps[0]? = some ar.arg) (hN : N[0]? = some ar.arg) (hσ : σ[0]? = some (some (.ref a)))
    (I : Inv (cxS P w K mg base N qual sc f cc (.ref cda) A outer s0 H0) [] σ H s) (ea : H a = some (exo a C none))
    (ha : PA (cxS P w K mg base N qual sc f cc (.ref cda) A outer s0 H0) (e :: es) ta)
    (hr : ta σ H fun vs H1 => vs.length ≤ 1000 ∧ H1 a = some (exo a C none) ∧ R H1) {pl : Sem Bool}
    (hi : interactive (PySem.W.ksEnv qual sc s0.heap.objs.size f (.ref cda) cc) = false := by rfl)
    (hs : swapsWith (.Call (.Attribute (.Call (.Name "super" p0) [] [] p1) "__init__" p2) (e :: es) [] p3) none p4.line (PySem.W.ksEnv qual sc s0.heap.objs.size f (.ref cda) cc) = pure false := by rfl)
    (hc : eval (.Call (.Attribute (.Call (.Name "super" p0) [] [] p1) "__init__" p2) (e :: es) [] p3) (PySem.W.ksEnv qual sc s0.heap.objs.size f (.ref cda) cc) = (do
      let ov ← attributeBase (.Call (.Name "super" p0) [] [] p1) "__init__" (PySem.W.ksEnv qual sc s0.heap.objs.size f (.ref cda) cc) (eval (.Call (.Name "super" p0) [] [] p1) (PySem.W.ksEnv qual sc s0.heap.objs.size f (.ref cda) cc))
      standAt p2.atName
      let (g, first) ← holding [ov] (getMethod ov "__init__" pl)
      callWith p3 g first (backTo p3 (starEach (e :: es) (PySem.W.ksEnv qual sc s0.heap.objs.size f (.ref cda) cc))) []) := by rfl)
    (he : starEach (e :: es) (PySem.W.ksEnv qual sc s0.heap.objs.size f (.ref cda) cc) = (false, eval e (PySem.W.ksEnv qual sc s0.heap.objs.size f (.ref cda) cc)) :: starEach es (PySem.W.ksEnv qual sc s0.heap.objs.size f (.ref cda) cc) := by rfl)
    (hpl : (backTo p3 (starEach es (PySem.W.ksEnv qual sc s0.heap.objs.size f (.ref cda) cc))).any (·.1) = false := by rfl) :
    _root_.PySem.wpAt (model P w) (A.deeper (PySem.W.ksEnv qual sc s0.heap.objs.size f (.ref cda) cc)) (.func body (PySem.W.ksEnv qual sc s0.heap.objs.size f (.ref cda) cc))
      (exec (.Expr (.Call (.Attribute (.Call (.Name "super" p0) [] [] p1) "__init__" p2) (e :: es) [] p3) p4) (PySem.W.ksEnv qual sc s0.heap.objs.size f (.ref cda) cc))
      (fun fl s' => fl = .next ∧ ∃ H1, Inv (cxS P w K mg base N qual sc f cc (.ref cda) A outer s0 H0) [] σ H1 s' ∧ R H1) (fun _ _ => False) s := by
  obtain ⟨cd, hcd⟩ := FC.cls
  obtain ⟨cl, cdc, cs, lcc⟩ := hcell
  obtain ⟨ccl, cdd, cvs, ccs, file, tf, lcd, hv2, hfile⟩ := hcode
  obtain ⟨oD, hD1, hD2⟩ : ∃ oD, s.heap.get? C = some oD ∧ oD.data = .cls cd := by
    have hq := hcd
    unfold PySem.W.clsIn at hq
    split at hq
    · rename_i c d cd' sl' ho
      cases hq
      exact ⟨_, I.kIn _ _ ho, rfl⟩
    · cases hq
  obtain ⟨t1, ho⟩ := exo_at I.hok ea
  have KX := I.kIn
  obtain ⟨m, hns, hloc⟩ := I.loc
  have hka : sc.names.lookup ar.arg = some .local := S.loc _ (List.mem_of_getElem? h0)
  obtain ⟨u, hu, hlook⟩ := hloc 0 ar.arg (.ref a) hN hσ (.inl hka)
  obtain rfl : u = Value.ref a := hu
  have hself : m ar.arg = some (.ref a) := by
    rcases hlook with z | ⟨z, _⟩
    · exact z.2
    · have z : sc.names.lookup ar.arg = some .cell ∨ sc.names.lookup ar.arg = some .free := z
      rw [hka] at z
      rcases z with z | z <;> cases z
  obtain ⟨mb, hb, hbb⟩ := I.mod.blt
  refine ks_wpAt_Expr_any ?_ hi hs
  refine ks_wpAt_MethodCall (pl := pl) ?_ hc
  refine ks_wpAt_super_base (env := PySem.W.ksEnv qual sc s0.heap.objs.size f (.ref cda) cc) S.sup S.cls (by decide) rfl (KX _ _ lk) rfl hf rfl (KX _ _ lcd) rfl hv2 hfile FC.top ?_
  refine PySem.W.ks_loadName_global S.kd S.sup (Calls.loadGlobal_builtin (mg := mg) (mb := mb) (I.mod.glob.keeps I.bk) hm (hb.keeps I.bk) ((hbb _ (by decide)).trans (by first | boot_by_name | rfl | kernel_rfl)) ⟨rfl, ?_⟩)
  refine wpAny_loadName_free S.kd S.cls rfl ⟨_, KX _ _ lcc, rfl⟩ ?_
  refine wpAny_loadName_local S.kd hka hns hself ?_
  refine ks_wpAny_isType_cls hD1 hD2 ⟨rfl, ?_⟩
  obtain ⟨hp, g, d, t, os⟩ := s
  refine ks_wpAny_call_super hD1 hD2 ho rfl (fun c z => by cases z) (PySem.W.looks_mroIn KX FC.sub) (fun h' e1 k1 => ?_)
  have I1 : Inv (cxS P w K mg base N qual sc f cc (.ref cda) A outer s0 H0) [] σ H ⟨h', g, d, t, os⟩ := I.kept (t' := t) k1
  have J1 : PySem.W.InstAt h' a { cls := .ref C, dict := none, data := .fields #[.ref t1, .none, .none, .none, .bool false, .none] } C none := ⟨k1 _ _ ho, rfl, rfl, trivial⟩
  have hmet : PySem.W.alongIn K "__init__" ((cd.mro.dropWhile (· != .ref C)).drop 1) = some (some (.builtin "ValueError.__init__")) := by
    have z := FC.met
    unfold PySem.W.ks_superIn at z
    rw [hcd] at z
    exact z
  refine PySem.W.kxs_getMethod PySem.W.kxs_ValueError e1 (PySem.W.looks_opaque I1.kIn FC.opq) (l₀ := cd.mro) (fun A Q E s k q => wpAny_bind ((PySem.W.looks_clsIn I1.kIn hcd) A _ E s k (wpAny_pure q))) rfl I1.kIn hmet
    (J1.type.andThen (PySem.W.looks_subIn I1.kIn FC.val)) (PySem.W.ks_ne I1.kIn J1 hcd) (by decide) ?_
  have I2 := ClX.pin_new (t' := t + 1) (o := PySem.W.kxs_mw "ValueError.__init__" a) (a := h'.objs.size) I1 (fun b o q => Heap.get?_push_of_some _ q) (Nat.le_refl _) (Heap.get?_push_at rfl rfl) (fun v z => nomatch z)
  have run := ha.run p3 _ _ σ H _ I2 hr
  have run' := run
  change wpAny (model P w) (A.deeper (PySem.W.ksEnv qual sc s0.heap.objs.size f (.ref cda) cc)) (callWith p3 (.ref h'.objs.size) [] (backTo p3 (starEach (e :: es) (PySem.W.ksEnv qual sc s0.heap.objs.size f (.ref cda) cc))) []) _ _ _
  have he2 : starEach (e :: es) (cxS P w K mg base N qual sc f cc (.ref cda) A outer s0 H0).env = (false, eval e (PySem.W.ksEnv qual sc s0.heap.objs.size f (.ref cda) cc)) :: starEach es (PySem.W.ksEnv qual sc s0.heap.objs.size f (.ref cda) cc) := he
  rw [he2] at run
  rw [he]
  refine PySem.W.kxs_callWith (i := "ValueError.__init__") (x := a) (by show (false || (backTo p3 (starEach es (PySem.W.ksEnv qual sc s0.heap.objs.size f (.ref cda) cc))).any (·.1)) = false; rw [hpl]; rfl) ?_
  refine Calls.evalArgs_plain (wpAny_mono run (fun us s1 ⟨vs, H1, I3, r1, hl, e3, hR⟩ => ⟨ClX.pin_at I3, ?_⟩) fun _ _ z => z)
  have hlen : us.length ≤ sizeLine := by
    rw [← r1.length, sizeLine_eq]
    omega
  exact call_sup T I3 e3 hlen fun s' J => ⟨rfl, H1, J, hR⟩
/-- a def whose first step is super().__init__(..), by the rest of its body -/
theorem sup_ok {C : Addr} {qual : Str} {st : Stmt} {f : Addr} {fd : FuncData} {N ps : List Str} {k : Nat} {sp : Sp} {ar : Arg} {p0 p1 p2 p3 p4 : Pos} {e : Expr} {es : List Expr} {rest : List Stmt}
    (F : SupFun P K C qual st f fd) (S : SupScope N ps (defScope st)) (T : OexC K C) (FC : SupC P K C) (hm : mg "super" = none) (len : ∀ vs H Q E, sp vs H Q E → vs.length = ps.length)
    (hf : ((defArgs st).posonlyargs ++ (defArgs st).args).head? = some ar) (h0 : ps[0]? = some ar.arg) (hN : N[0]? = some ar.arg)
    (hbd : defBody st = .Expr (.Call (.Attribute (.Call (.Name "super" p0) [] [] p1) "__init__" p2) (e :: es) [] p3) p4 :: rest)
    (body : ∀ (cc cda : Addr) (A : Around) (outer : List Env) (s : Shared) (H : Hp) (vs : List V) (Q : VK) (E : XK), sp vs H Q E →
      ∃ (a : Addr) (ta : TA) (t : TS) (pl : Sem Bool), (start N vs)[0]? = some (some (.ref a)) ∧ H a = some (exo a C none) ∧ PA (cxS P w K mg base N qual (defScope st) f cc (.ref cda) A outer s H) (e :: es) ta ∧ PSs (cxS P w K mg base N qual (defScope st) f cc (.ref cda) A outer s H) rest t ∧
        (ta (start N vs) H fun ws H1 => ws.length ≤ 1000 ∧ H1 a = some (exo a C none) ∧ t { nx := fun _ H' => Q .non H', rt := Q } (start N vs) H1) ∧
        interactive (PySem.W.ksEnv qual (defScope st) s.heap.objs.size f (.ref cda) cc) = false ∧
        swapsWith (.Call (.Attribute (.Call (.Name "super" p0) [] [] p1) "__init__" p2) (e :: es) [] p3) none p4.line (PySem.W.ksEnv qual (defScope st) s.heap.objs.size f (.ref cda) cc) = pure false ∧
        eval (.Call (.Attribute (.Call (.Name "super" p0) [] [] p1) "__init__" p2) (e :: es) [] p3) (PySem.W.ksEnv qual (defScope st) s.heap.objs.size f (.ref cda) cc) = (do
          let ov ← attributeBase (.Call (.Name "super" p0) [] [] p1) "__init__" (PySem.W.ksEnv qual (defScope st) s.heap.objs.size f (.ref cda) cc) (eval (.Call (.Name "super" p0) [] [] p1) (PySem.W.ksEnv qual (defScope st) s.heap.objs.size f (.ref cda) cc))
          standAt p2.atName
          let (g, first) ← holding [ov] (getMethod ov "__init__" pl)
          callWith p3 g first (backTo p3 (starEach (e :: es) (PySem.W.ksEnv qual (defScope st) s.heap.objs.size f (.ref cda) cc))) []) ∧
        starEach (e :: es) (PySem.W.ksEnv qual (defScope st) s.heap.objs.size f (.ref cda) cc) = (false, eval e (PySem.W.ksEnv qual (defScope st) s.heap.objs.size f (.ref cda) cc)) :: starEach es (PySem.W.ksEnv qual (defScope st) s.heap.objs.size f (.ref cda) cc) ∧
        (backTo p3 (starEach es (PySem.W.ksEnv qual (defScope st) s.heap.objs.size f (.ref cda) cc))).any (·.1) = false) : FnOk P w K mg base CX0 (k + 1) f fd ps sp := by
  obtain ⟨oc, od, kV, dc, pm, an, cda, cc, ct, sl, rfl, lk, hcd, hcell, hcode⟩ := F.ex
  constructor
  · exact len
  intro A outer s H args us vs Q E hr e0 hb r h
  have many := len _ _ _ _ h
  have KX : K.In s.heap := e0.mod.kin.keeps fun b o q => (e0.bs b o q).1
  have lim : s.heap.NoLimit := e0.mod.nolimit.keeps fun b o q => (e0.bs b o q).1
  refine ks_codeAny_call_defAt hr.depth (KX _ _ lk) rfl lim (PySem.W.codeRec_of KX hcd) rfl hb S.noc (fun y hy => S.loc y.1 (List.of_mem_zip (show (y.1, y.2) ∈ ps.zip us from hy)).1) (fun h0' hns hk => ?_) S.c0 S.g0 S.kd
  obtain ⟨a, ta, t, pl, hσ, ea, hPA, hPS, hread, hi, hs, hc, he, hpl⟩ := body cc cda A outer s H vs Q E h
  have I := inv_sup (P := P) (w := w) (qual := qual) (f := f) (cd := .ref cda) (tk := s.toks + (ps.zip us).length) S hr.hd e0 many r (let ⟨cl, cd, cs, lc⟩ := hcell; ⟨_, _, lc, rfl⟩) hns hk
  show _root_.PySem.wpAt (model P w) (A.deeper (PySem.W.ksEnv qual (defScope st) s.heap.objs.size f (.ref cda) cc)) (.func (defBody st) (PySem.W.ksEnv qual (defScope st) s.heap.objs.size f (.ref cda) cc)) (execs (defBody st) (PySem.W.ksEnv qual (defScope st) s.heap.objs.size f (.ref cda) cc)) _ _ _
  rw [hbd]
  refine ks_wpAt_execs_cons (ks_wpAt_mono (sup_step (R := fun H1 => t { nx := fun _ H' => Q .non H', rt := Q } (start N vs) H1) S T FC hm lk hcell hcode hf h0 hN hσ I ea hPA hread (pl := pl) hi hs hc he hpl) ?_ fun _ _ z => z.elim)
  rintro fl s' ⟨rfl, H1, J, hR⟩
  refine _root_.PySem.wpAt_of_wpAny (wpAny_mono (hPS.run [] s' (start N vs) H1 _ J hR) ?_ fun _ _ z => False.elim z)
  rintro fl2 s2 z
  cases fl2 with
  | ret u =>
    obtain ⟨v, σ', H', J', rv, q⟩ := z
    exact ⟨v, H', J'.os, J'.bare, J'.base, J'.hok, rv, q⟩
  | next =>
    obtain ⟨σ', H', J', q⟩ := z
    exact ⟨V.non, H', J'.os, J'.bare, J'.base, J'.hok, rfl, q⟩
  | brk => obtain ⟨_, _, _, q⟩ := z; exact q.elim
  | cont => obtain ⟨_, _, _, q⟩ := z; exact q.elim
end
end Gd

/-! # several except clauses with names -/
namespace Gd
open PySem PySem.Spec PyProof.Rows L2
/-- an except clause: the class, the place of its name, what its suite reads -/
abbrev Cl3 := Value × Nat × (Addr → Value → Option Addr → TS)
/-- what the clauses want of an exception -/
def wNam (K : PySem.W.Frag) (W0 : WX) (D : Ends) : List Cl3 → WX
  | [] => W0
  | q :: r => fun cls d σ H => ∃ b, PySem.W.exmOne K cls q.1 = some b ∧
      (b = true → ∀ e, H e = none → q.2.2 e cls d ⟨fun σ1 H1 => D.nx (σ1.set q.2.1 none) H1, D.rt, fun σ1 H1 => D.bk (σ1.set q.2.1 none) H1, fun σ1 H1 => D.ct (σ1.set q.2.1 none) H1⟩ (σ.set q.2.1 (some (.ref e))) H) ∧
      (b = false → wNam K W0 D r cls d σ H)
inductive NamOk (X : Cx) : List ExceptHandler → List Cl3 → Prop
  | nil : NamOk X [] []
  | cons {y nm : Str} {cv : Value} {j : Nat} {rd : Addr → Value → Option Addr → TS} {st : Stmt} {sts : List Stmt} {q1 q2 : Pos} {hs : List ExceptHandler} {l : List Cl3} (hn : Names X y cv) (hj : X.N[j]? = some nm) (hk : X.env.kindOf nm = some .local)
      (hs1 : ∀ (e : Addr) (ob : Obj) (cls : Value) (d : Option Addr) (pn : List (Addr × Obj)), Zc cls d ob → (∃ vs, ob.data = .fields vs) → PSs (X.suite e ((e, ob) :: pn)) (st :: sts) (rd e cls d)) (r : NamOk X hs l) :
      NamOk X (.ExceptHandler (some (.Name y q1)) (some nm) (st :: sts) q2 :: hs) ((cv, j, rd) :: l)
section
variable {X : Cx} {body : List Stmt} {hd : ExceptHandler} {hs : List ExceptHandler} {l : List Cl3} {pos : Pos} {rb : WX → TS} {W0 : WX}
theorem ps_tryN (h1 : X.stack = X.env :: X.outer) (h2 : X.env.frame = some X.env.locals) (nd : X.N.Nodup) (tk0 : Takes X W0)
    (hb : ∀ (W : WX) (pn : List (Addr × Obj)) (xe : Value → Shared → Prop), Takes (X.tr pn xe) W → PassesOwn (model X.prog X.w) X.A X.env xe → PSs (X.tr pn xe) body (rb W))
    (ho : NamOk X (hd :: hs) l) : PS X (.Try body (hd :: hs) [] [] pos) (fun D σ H => rb (wNam X.K W0 D l) D σ H) := by
  constructor
  intro pins s σ H D I hread
  have okX := I.ok
  have frX : X.A.frames = some (X.env :: X.outer) := okX.frames.trans (by rw [h1])
  refine wpAny_Try_except ?_
  let after : Value → Shared → Prop := fun e t1 => wpAny (model X.prog X.w) X.A (noteFrame e X.env) (fun _ t2 => wpAny (model X.prog X.w) X.A (setFlight e none) (fun _ t3 => wpAny (model X.prog X.w) X.A (handleBy e X.env (hd :: hs)) (SP X pins D) X.xe t3) X.xe t2) X.xe t1
  have caught : Takes (X.tr (X.pn ++ pins) after) (wNam X.K W0 D l) := by
    intro u t hx
    obtain ⟨e, B, sI, pins', σ1, H1, cls, d, rfl, J', nb, up, sky, ne, os, ag, want⟩ := hx
    have J : Inv X pins σ1 H1 sI := J'.ofTry okX
    show wpAny (model X.prog X.w) X.A (noteFrame (.ref e) X.env) _ _ _
    refine Sky.land Zc.steady frX h2 (h1 ▸ sky) fun g1 fl1 up1 => ?_
    have J1 : Inv X pins σ1 H1 { t with heap := g1 } := J.landed nb fl1.1 (up.trans up1) os ag
    obtain ⟨ob1, vs1, at1, z1, dt1⟩ := fl1.there
    have apart : e ∉ frs (X.env :: X.outer) := fun hm => by
      obtain ⟨_, o', at', nf⟩ := fl1.2.2.1.mem hm
      rw [at1] at at'
      cases at'
      exact nf _ dt1
    have eL : e ≠ X.env.locals := fun z => apart (List.mem_filterMap.mpr ⟨X.env, List.mem_cons_self, by rw [h2, z]⟩)
    have eF : e ∉ X.fs := fun hm => by
      obtain ⟨en, hen, q⟩ := List.mem_filterMap.mp hm
      exact apart (List.mem_filterMap.mpr ⟨en, List.mem_cons_of_mem _ hen, q⟩)
    have S1 := J1.suite at1 dt1 ne eL eF
    have LT : PySem.W.Looks (model X.prog X.w) g1 (typeOf (.ref e)) cls := fun A Q E t k q => wpAny_typeOf_ref (k _ _ at1) (by rw [z1.1]; exact q)
    have all : ∀ {hs' : List ExceptHandler} {l' : List Cl3}, NamOk X hs' l' → wNam X.K W0 D l' cls d σ1 H1 → wpAny (model X.prog X.w) X.A (handleBy (.ref e) X.env hs') (SP X pins D) X.xe { t with heap := g1 } := by
      intro hs' l' ok'
      induction ok' with
      | nil =>
        intro want
        refine wpAny_handleBy_nil ?_
        obtain ⟨k1, k2, k3, oe, vs, T, oT, ts', he, hz, hd', hv1, hr⟩ := id fl1
        unfold PySem.passOn
        refine wpAny_bind (wpAny_field he hd' hv1 ?_)
        have noT : ¬ ((Value.ref T == Value.none) = true) := by simp
        rw [if_neg noT]
        have on : wpAny (model X.prog X.w) X.A (setFlight (.ref e) X.env.frame) (fun _ t4 => wpAny (model X.prog X.w) X.A (throw (.ref e) : Sem Flow) (SP X pins D) X.xe t4) X.xe { t with heap := g1 } := by
          rw [h2]
          refine HandSPX.setFlight_upZ fl1 fun g2 hh2 up2 => wpAny_throw (tk0 _ _ ?_)
          exact ⟨e, B, sI, pins, σ1, H1, cls, d, rfl, J, nb, (up.trans up1).trans up2, .inr (.inr (h1 ▸ hh2)), ne, os, ag, want⟩
        first
          | exact wpAny_bind on
          | exact wpAny_bind (wpAny_pure (wpAny_bind on))
      | @cons y nm cv j rd st sts q1 q2 hs2 l2 hn hj hk hs1 r ih =>
        intro want
        obtain ⟨b, hb1, yes, no⟩ := want
        refine wpAny_handleBy_cons (codeAny_handlers_test ?_) (by intro q; cases q)
        have LM := PySem.W.exm_one (M := model X.prog X.w) J1.kIn LT hb1
        have named : ∀ {Q E : Value → Shared → Prop}, Q cv { t with heap := g1 } → wpAny (model X.prog X.w) (X.A.mark (some (.ref e))) (eval (.Name y q1) X.env) Q E { t with heap := g1 } := by
          intro Q E q
          rcases hn with ⟨hg, hdb, hm | ⟨hm, hv, hnn⟩⟩
          · exact ld_glob (X := X.suite e ((e, ob1) :: (X.pn ++ pins))) S1 hg hm q hdb
          · exact ld_blt (X := X.suite e ((e, ob1) :: (X.pn ++ pins))) S1 hg hm hv q hnn hdb
        refine named (LM.here ?_)
        cases b with
        | false => exact ih (no rfl)
        | true =>
          refine codeAny_handlers_suite_as (HandSPX.lands_againZ fl1 fun g2 fl2 up2 => ?_)
          have J2 : Inv X pins σ1 H1 { t with heap := g2 } := J.landed nb fl2.1 ((up.trans up1).trans up2) os ag
          obtain ⟨ob2, vs2, at2, z2, dt2⟩ := fl2.there
          have S2 := J2.suite at2 dt2 ne eL eF
          refine store_ok (X := X.suite e ((e, ob2) :: (X.pn ++ pins))) (v := .ref e) S2 nd hj (.inl hk) rfl (fun t5 S5 => ?_) (.inr hk)
          refine wpAny_mono ((hs1 e ob2 cls d (X.pn ++ pins) z2 ⟨_, dt2⟩).run [] t5 _ H1 _ S5 (yes rfl e ne)) ?_ fun _ _ z => False.elim z
          have gone : ∀ {σ6 : L2.St} {H6 : Hp} {R : Shared → Prop} {t6 : Shared}, Inv (X.suite e ((e, ob2) :: (X.pn ++ pins))) [] σ6 H6 t6 → (∀ t7, Inv X pins (σ6.set j none) H6 t7 → R t7) →
              wpAny (model X.prog X.w) X.A (do bindName X.env nm .none; unbindBehindTheSuite X.env nm q2) (fun _ t7 => R t7) X.xe t6 := fun S6 hq => gone_ok (S6.unsuite okX) nd hj hk hq
          intro f t6 z
          cases f with
          | ret u =>
            obtain ⟨v6, σ6, H6, S6, r6, q6⟩ := z
            exact gone S6 fun t7 J7 => ⟨v6, _, H6, J7, r6, q6⟩
          | next =>
            obtain ⟨σ6, H6, S6, q6⟩ := z
            exact gone S6 fun t7 J7 => ⟨_, H6, J7, q6⟩
          | brk =>
            obtain ⟨σ6, H6, S6, q6⟩ := z
            exact gone S6 fun t7 J7 => ⟨_, H6, J7, q6⟩
          | cont =>
            obtain ⟨σ6, H6, S6, q6⟩ := z
            exact gone S6 fun t7 J7 => ⟨_, H6, J7, q6⟩
    exact all ho want
  refine wpAny_mono ((hb _ (X.pn ++ pins) after caught PassesOwn.looking).run [] s σ H D (I.toTry _) hread) ?_ fun e t z => z
  intro f t1 z
  cases f with
  | ret u =>
    obtain ⟨v, σ1, H1, J1, r, q⟩ := z
    exact ⟨v, σ1, H1, J1.ofTry okX, r, q⟩
  | next =>
    obtain ⟨σ1, H1, J1, q⟩ := z
    exact wpAny_execs_nil ⟨σ1, H1, J1.ofTry okX, q⟩
  | brk =>
    obtain ⟨σ1, H1, J1, q⟩ := z
    exact ⟨σ1, H1, J1.ofTry okX, q⟩
  | cont =>
    obtain ⟨σ1, H1, J1, q⟩ := z
    exact ⟨σ1, H1, J1.ofTry okX, q⟩
end
end Gd
/-! # the end of a law whose defs make lambdas: the tables of their code objects are tracked -/
namespace Gd
open PySem PySem.Spec PyProof.Rows L2
section
open Att
theorem law_callGT {P : Program} {w : World} {K : PySem.W.Frag} {mg mb : Str → Option Value} {k : Nat} {fa a : Addr} {cs : List (Addr × Addr)} {fd : FuncData} {x : Str} {sp : Sp} {s : Shared} {vs : List Value} {ns : List Int}
    (KX : K.In s.heap) (hns : s.heap.Ns mainGlobals mg) (hb : s.heap.Ns builtinsNs mb) (hbb : ∀ x : Str, x ≠ "__name__" → mb x = bootBuiltins x) (hlim : s.heap.NoLimit) (hg : s.gens = #[])
    (tT : ∀ p ∈ cs, s.heap.get? p.2 = some (PySem.W.tabObj #[])) (tK : ∀ p ∈ cs, K.lookup p.2 = none) (tC : ∀ p ∈ cs, PySem.W.CodeHd s.heap p.1 p.2)
    (bmod : ∃ (bm : Addr) (ob : Obj), mg "__builtins__" = some (.ref bm) ∧ bm ≠ builtinsNs ∧ s.heap.get? bm = some ob ∧ ob.cls = .type "module" ∧ ob.dict = some builtinsNs ∧ ob.data = .plain)
    (ha : s.heap.get? a = some { cls := .type "list", data := .seq vs.toArray }) (hi : IntsAre vs ns) (hl : ns.length ≤ sizeLine) (hr : Room k callerA)
    (F : ∀ base : Heap, K.In base → base.Ns mainGlobals mg → (∀ p ∈ cs, LamX.TabB base mg p.1 p.2) → FnG P w K mg base CX0 k fa fd [x] sp)
    (hbind : ∀ (s : Shared) (u : Value), BindsTo s fd ⟨[u], []⟩ [(x, u)])
    (hsp : ∀ H : Hp, (∀ p ∈ cs, H p.2 = some (.tbl #[])) → SqL K H a (ns.map V.int) → sp [.ref a] H (fun v _ => v = .bl true) fun _ _ _ => False) :
    codeAny (model P w) callerA (.call (.ref fa) ⟨[.ref a], []⟩)
      (fun r s' => r = .ok (.ret (.bool true)) ∧ OldK s.heap s'.heap ∧ s'.os = s.os ∧ AllBare s'.gens) s := by
  have rv := vals_ints hi
  have many := hi.length
  have main : ∀ H : Hp, (∀ b u, H b = some u → (b = a ∧ u = .frz { cls := .type "list", data := .seq vs.toArray } (.lst (ns.map V.int))) ∨ ((∃ p ∈ cs, p.2 = b) ∧ u = .tbl #[])) → (∀ p ∈ cs, H p.2 = some (.tbl #[])) →
      SqL K H a (ns.map V.int) → (H a ≠ none → K.lookup a = none) →
      codeAny (model P w) callerA (.call (.ref fa) ⟨[.ref a], []⟩) (fun r s' => r = .ok (.ret (.bool true)) ∧ OldK s.heap s'.heap ∧ s'.os = s.os ∧ AllBare s'.gens) s := by
    intro H kind tabs hS hK
    have ok : HOk P w H s.heap := by
      intro b u z
      rcases kind b u z with ⟨rfl, rfl⟩ | ⟨⟨p, hp, rfl⟩, rfl⟩
      · exact ⟨ha, by rw [List.length_map]; exact hl, vs, _, rv, ha⟩
      · exact tT p hp
    -- what is neither the script nor a table is not tracked
    have off : ∀ {b : Addr} {o : Obj}, s.heap.get? b = some o → o ≠ { cls := .type "list", data := .seq vs.toArray } → o ≠ PySem.W.tabObj #[] → H b = none := by
      intro b o q n1 n2
      cases z : H b with
      | none => rfl
      | some u =>
        rcases kind b u z with ⟨rfl, _⟩ | ⟨⟨p, hp, rfl⟩, _⟩
        · exact absurd (Option.some.inj (q.symm.trans ha)) n1
        · exact absurd (Option.some.inj (q.symm.trans (tT p hp))) n2
    have into : ∀ {b : Addr} {o : Obj}, s.heap.get? b = some o → o ≠ { cls := .type "list", data := .seq vs.toArray } → o ≠ PySem.W.tabObj #[] → (hidT s.heap H).get? b = some o := fun q n1 n2 => hidT_get q (off q n1 n2)
    have ns_ : ∀ {b : Addr} {m : Str → Option Value}, s.heap.Ns b m → (hidT s.heap H).Ns b m := by
      rintro b m ⟨o, es, ep, q, d, z⟩
      refine ⟨o, es, ep, into q (fun e => ?_) (fun e => ?_), d, z⟩
      · rw [e] at d
        cases d
      · rw [e] at d
        cases d
    have KB : K.In (hidT s.heap H) := by
      intro b o q
      refine hidT_get (KX b o q) ?_
      cases z : H b with
      | none => rfl
      | some u =>
        rcases kind b u z with ⟨rfl, _⟩ | ⟨⟨p, hp, rfl⟩, _⟩
        · rw [hK (by rw [z]; exact fun y => nomatch y)] at q
          cases q
        · rw [tK p hp] at q
          cases q
    obtain ⟨mc, l1, l2⟩ := hlim
    have M : Mod K mg (hidT s.heap H) := ⟨KB, ns_ hns, ⟨mb, ns_ hb, hbb⟩, mc, ns_ l1, l2⟩
    have TB : ∀ p ∈ cs, LamX.TabB (hidT s.heap H) mg p.1 p.2 := by
      intro p hp
      obtain ⟨ob0, es0, ep0, g0, d0, _⟩ := hns
      constructor
      · obtain ⟨oc, us, fl, tf, fg, tg, inF, tx, tt, q, qc, qd, rest⟩ := tC p hp
        refine ⟨oc, us, fl, tf, fg, tg, inF, tx, tt, into q (fun e => ?_) (fun e => ?_), qc, qd, rest⟩
        · rw [e] at qc
          have qc : Value.type "list" = Value.type "code" := qc
          simp at qc
        · rw [e] at qc
          cases qc
      · obtain ⟨bm, ob, b1, b2, b3, b4, b5, b6⟩ := bmod
        refine ⟨bm, ob, b1, b2, fun e => ?_, fun e => ?_, into b3 (fun e => ?_) (fun e => ?_), b4, b5, b6⟩
        · rw [e, g0] at b3
          cases b3
          rw [d0] at b6
          cases b6
        · rw [e, tT p hp] at b3
          cases b3
          cases b6
        · rw [e] at b6
          cases b6
        · rw [e] at b6
          cases b6
      · intro e
        rw [e, tT p hp] at g0
        cases g0
        cases d0
    have e0 : Env0 P w K mg (hidT s.heap H) callerA [] s H := ⟨rfl, M, fun b o q => of_hidT q, Nat.le_of_eq (hidT_size _ _), trivial, (fun b z => by cases z), ok, .of_eq hg⟩
    refine codeAny_mono ((F _ KB (ns_ hns) TB).run callerA [] s H ⟨[.ref a], []⟩ [.ref a] [.ref a] _ _ hr rfl e0 (hbind s (.ref a)) (.cons rfl .nil) (hsp H tabs hS)) ?_
    rintro (e | fl) s' h
    · exact (show False from h).elim
    cases fl with
    | next => exact (show False from h).elim
    | brk => exact (show False from h).elim
    | cont => exact (show False from h).elim
    | ret u =>
      obtain ⟨v, H', os, bare, un, ok', rel, q⟩ := h
      obtain rfl : v = .bl true := q
      obtain rfl : u = Value.bool true := rel
      have grown : ∀ p ∈ cs, ∃ more : Array Value, s'.heap.get? p.2 = some (PySem.W.tabObj more) := fun p hp => by
        obtain ⟨more, z⟩ := un.tbls p.2 #[] (tabs p hp)
        exact ⟨_, ok' p.2 _ z⟩
      have stay : ∀ {b : Addr} {o : Obj}, s.heap.get? b = some o → (¬ ∃ p ∈ cs, p.2 = b) → s'.heap.get? b = some o := by
        intro b o q no
        cases z : H b with
        | none => exact un.keep b o q z (fun y => by cases y) (fun y => by cases y)
        | some u =>
          rcases kind b u z with ⟨rfl, rfl⟩ | ⟨y, _⟩
          · obtain ⟨q1, _⟩ := ok b _ z
            obtain ⟨q2, _⟩ := ok' b _ (un.frzs b _ _ z)
            rw [q] at q1
            cases q1
            exact q2
          · exact absurd y no
      refine ⟨rfl, ⟨fun b o q => ?_, fun b o q => ?_⟩, os, bare⟩
      · by_cases hb : ∃ p ∈ cs, p.2 = b
        · obtain ⟨p, hp, rfl⟩ := hb
          obtain ⟨more, hm⟩ := grown p hp
          rw [tT p hp] at q
          cases q
          exact .inr (.inl ⟨((tC p hp).tab (tT p hp)).isCodeTable, rfl, #[], more, rfl, by rw [Array.empty_append]; exact hm⟩)
        · exact .inl (stay q hb)
      · by_cases hb : ∃ p ∈ cs, p.2 = b
        · obtain ⟨p, hp, rfl⟩ := hb
          obtain ⟨more, hm⟩ := grown p hp
          exact ⟨_, hm⟩
        · exact ⟨o, stay q hb⟩
  have aT : ∀ p ∈ cs, p.2 ≠ a := fun p hp e => by
    have q := tT p hp
    rw [e, ha] at q
    cases q
  open Classical in
  cases hk : K.lookup a with
  | some o =>
    have q := KX a o hk
    rw [ha] at q
    cases q
    refine main (fun b => if ∃ p ∈ cs, p.2 = b then some (.tbl #[]) else none) (fun b u z => ?_) (fun p hp => if_pos ⟨p, hp, rfl⟩) (.inr ⟨_, vs.toArray, _, hk, rfl, rfl, rfl, ?_, by simpa using rv⟩) (fun z => absurd (if_neg ?_) z)
    · by_cases h : ∃ p ∈ cs, p.2 = b
      · exact .inr ⟨h, (Option.some.inj ((if_pos h).symm.trans z)).symm⟩
      · exact absurd ((if_neg h).symm.trans z) (fun y => nomatch y)
    · rw [List.size_toArray, many]
      exact hl
    · rintro ⟨p, hp, e⟩
      exact aT p hp e
  | none =>
    refine main (fun b => if b = a then some (.frz { cls := .type "list", data := .seq vs.toArray } (.lst (ns.map V.int))) else if ∃ p ∈ cs, p.2 = b then some (.tbl #[]) else none) (fun b u z => ?_)
      (fun p hp => (if_neg (aT p hp)).trans (if_pos ⟨p, hp, rfl⟩)) (.inl (.inr ⟨{ cls := .type "list", data := .seq vs.toArray }, if_pos rfl⟩)) fun _ => hk
    by_cases e : b = a
    · exact .inl ⟨e, (Option.some.inj ((if_pos e).symm.trans z)).symm⟩
    · have z := (if_neg e).symm.trans z
      by_cases h : ∃ p ∈ cs, p.2 = b
      · exact .inr ⟨h, (Option.some.inj ((if_pos h).symm.trans z)).symm⟩
      · exact absurd ((if_neg h).symm.trans z) (fun y => nomatch y)
/-- the end: the tables of the defs named in xs -/
theorem walkGT {l : PySem.W.OpenLaw} {n k : Nat} {q : Program} {loose : List Str} {XP : (Str → Option Value) → Heap → Prop} {YP : World → Heap → Prop}
    {d : DefRec} {K : Params → PySem.W.Frag} {x : Str}
    (hn : l.most = some n) (hn2 : n ≤ sizeLine) (hdf : d.params.defaults = []) (hr : Room k callerA)
    (hY : ∀ (w : World) (h : Heap), YP w h → (K w.params).In h)
    (F : ∀ (w : World) (mg : Str → Option Value) (fa : Addr) (h : Heap), (K w.params).In h → h.Ns mainGlobals mg → mg d.name = some (.ref fa) →
      ∃ (fd : FuncData) (cs : List (Addr × Addr)) (sp : Sp), (∀ (s : Shared) (u : Value), BindsTo s fd ⟨[u], []⟩ [(x, u)]) ∧
        (∀ p ∈ cs, (K w.params).lookup p.2 = none ∧ ∃ (y : Str) (e : DefRec), (recsOf q).find? (fun e => e.name == y) = some e ∧ PySem.W.tabIn (K w.params) y = some p) ∧
        (∀ (H : Hp) (a : Addr) (ns : List Int), ns.length ≤ n → (∀ z ∈ ns, Builtin.Int.intBits z ≤ 1048576) → (∀ p ∈ cs, H p.2 = some (.tbl #[])) → SqL (K w.params) H a (ns.map V.int) → sp [.ref a] H (fun v _ => v = .bl true) fun _ _ _ => False) ∧
        ∀ base : Heap, (K w.params).In base → base.Ns mainGlobals mg → (∀ p ∈ cs, LamX.TabB base mg p.1 p.2) → FnG l.prog w (K w.params) mg base CX0 k fa fd [x] sp) :
    PySem.W.WalkO q loose XP YP l.row.toRowW d [] (fun f vs => PySem.call f vs) := by
  refine attach_callB hn hdf ?_
  intro w s₀ s₁ mg mb fa o pm cd doc a vs ns G Y ho hd hcd hmg hobj hints hlen hbits hg
  have KX := hY w _ Y
  obtain ⟨fd, cs, sp, hb, ht, hsp, hF⟩ := F w mg fa _ KX G.T.g hmg
  have tabs : ∀ p ∈ cs, PySem.W.CodeHd s₁.heap p.1 p.2 ∧ s₁.heap.get? p.2 = some (PySem.W.tabObj #[]) := by
    intro p hp
    obtain ⟨_, y, e, h1, h2⟩ := ht p hp
    exact PySem.W.tab_of (c := p.1) (P := p.2) G.T KX h1 h2
  exact law_callGT KX G.T.g G.T.b G.T.builtins G.T.nolimit hg (fun p hp => (tabs p hp).2) (fun p hp => (ht p hp).1) (fun p hp => (tabs p hp).1) G.T.bmain hobj hints (Nat.le_trans hlen hn2) hr hF hb (fun H h1 h2 => hsp H a ns hlen hbits h1 h2)
end
end Gd
/-! # a def that makes lambdas; the def that calls one -/
namespace Gd
open PySem PySem.Spec PyProof.Rows L2
/-- a def whose code object stands at c, with the table at P -/
structure FunL (K : PySem.W.Frag) (x qual : Str) (st : Stmt) (f : Addr) (fd : FuncData) (c : Addr) : Prop where
  ex : ∃ (oc : Value) (od : Option Addr) (kV dc pm : Value) (an : Option Addr) (ct : Value) (sl : Array (Option Value)),
    fd = PySem.W.fnOf x qual (defArgs st) (defBody st) (defScope st) .none kV dc pm an (.ref c) ct ∧ K.lookup f = some ⟨oc, od, .func fd, sl⟩ ∧ PySem.W.codeIn K (.ref c) qual = true
  kp : PySem.W.keepIn K (.ref f) = true
theorem tab_in {K : PySem.W.Frag} {y : Str} {f c p : Addr} {o cl : Value} {od cd : Option Addr} {sl cs : Array (Option Value)} {fd : FuncData} {us : Array Value} (h1 : PySem.W.nsIn K mainGlobals y = some (some (.ref f))) (h2 : K.lookup f = some ⟨o, od, .func fd, sl⟩) (h3 : fd.code = .ref c)
    (h4 : K.lookup c = some ⟨cl, cd, .fields us, cs⟩) (h5 : us[11]? = some (.ref p)) : PySem.W.tabIn K y = some (c, p) := by
  unfold PySem.W.tabIn
  rw [h1]
  dsimp only
  rw [h2]
  dsimp only
  rw [h3]
  dsimp only
  rw [h4]
  dsimp only
  rw [h5]
section
variable {P : Program} {w : World} {K : PySem.W.Frag} {mg : Str → Option Value} {base : Heap}
theorem okGL {x qual : Str} {st : Stmt} {f c : Addr} {fd : FuncData} {N ps : List Str} {k : Nat} {sp : Sp} (F : FunL K x qual st f fd c)
    (S : FnScope N ps (defScope st)) (len : ∀ vs H Q E, sp vs H Q E → vs.length = ps.length)
    (body : ∀ (A : Around) (outer : List Env) (s : Shared) (H : Hp) (vs : List V) (Q : VK) (E : XK),
      Room k (A.deeper (envOfC qual (defScope st) s.heap.objs.size f (.ref c))) →
      (A.deeper (envOfC qual (defScope st) s.heap.objs.size f (.ref c))).guards = some [] → sp vs H Q E →
      ∃ t, PSs (cxOf CX0 P w K mg base N qual (defScope st) f (.ref c) A outer s H E).nox (defBody st) t ∧
        t { nx := fun _ H' => Q .non H', rt := Q } (start N vs) H) :
    FnG P w K mg base CX0 (k + 1) f fd ps sp := by
  obtain ⟨oc, od, kV, doc, pm, an, ct, osl, rfl, lk, code⟩ := F.ex
  constructor
  · exact len
  intro A outer s H args us vs Q E hr gd e0 hb r h
  have many := len _ _ _ _ h
  have KX : K.In s.heap := e0.mod.kin.keeps fun b o q => (e0.bs b o q).1
  have lim : s.heap.NoLimit := e0.mod.nolimit.keeps fun b o q => (e0.bs b o q).1
  have kinds : ∀ y ∈ ps.zip us, (defScope st).names.lookup y.1 = some .local ∨ ((defScope st).names.lookup y.1 = some .cell ∧
      ((cellsFrom (s.heap.objs.size + 1) (defScope st).names []).lookup y.1).isSome = true) := by
    rintro ⟨n, v⟩ hy
    rcases S.par n (List.of_mem_zip hy).1 with q | q
    · left; exact q
    · right; exact ⟨q, PySem.W.cellsFrom_some _ _ _ (.inl q)⟩
  refine codeAny_call_function hr.depth (KX _ _ lk) rfl S.co S.gen rfl (PySem.W.codeRec_of KX code) (hb _ _ _ _ ?_)
  refine wpAny_newFunctionEnv_cells S.kind kinds ?_
  rintro env rfl s1 x
  refine ⟨lim.keeps x.toInCall.keep, codeAny_func ?_⟩
  obtain ⟨t, ht, q⟩ := body A outer s H vs Q E (hr.deeper _) (show (A.deeper _).guards = some [] from gd) h
  have I : Inv (cxOf CX0 P w K mg base N qual (defScope st) f (.ref c) A outer s H E) [] (start N vs) H s1 := inv_start S hr.hd e0 many r x
  refine wpAny_mono (ht.nox.run [] s1 (start N vs) H _ I q) ?_ fun e s' z => z
  rintro fl s' z
  cases fl with
  | ret u =>
    obtain ⟨v, σ', H', J, rv, q⟩ := z
    exact ⟨v, H', J.os, J.bare, J.base, J.hok, rv, q⟩
  | next =>
    obtain ⟨σ', H', J, q⟩ := z
    exact ⟨V.non, H', J.os, J.bare, J.base, J.hok, rfl, q⟩
  | brk => obtain ⟨_, _, _, q⟩ := z; exact q.elim
  | cont => obtain ⟨_, _, _, q⟩ := z; exact q.elim
end
section
variable {X : Cx}
/-- x(lambda: e), x a def of the text with one parameter -/
theorem pe_lam {T : List (Addr × Str)} {TT : (XK → Hp → VK → Prop) → Hp → VK → Prop} {x a : Str} {g c p : Addr} {k : Nat} {st : Stmt} {fd : FuncData} {Ng : List Str} {params : Arguments} {body : Expr} {scope : Scope} {t : XK → TE} {q1 q2 q3 : Pos}
    (hg : Gl X x) (hm : X.mg x = some (.ref g)) (F : Fun X.K x x st g fd) (hb : L2.Binds X.K fd [a] []) (Sg : FnScope Ng [a] (defScope st)) (hNg : Ng[0]? = some a) (hva : Vis (defScope st) a)
    (hG : ∀ cdv : Value, LamX.GivesTo X Ng x (defScope st) g cdv (defBody st) a (X.env.qual ++ "<lambda>") TT) (TB : LamX.TabB X.base X.mg c p) (hcode : X.env.code = .ref c) (hmT : (p, X.env.qual ++ "<lambda>") ∈ T) (hu : ∀ y ∈ T, y.1 = p → y.2 = X.env.qual ++ "<lambda>")
    (hr : Room (k + 2) X.A) (L : LamX.LamS X.env.scope scope) (hdef : defaultsOf params X.env = ([], []))
    (hbind : ∀ (q : Str) (cl : List (Str × Addr)) (pm cv ctv : Value), bindArgs (PySem.W.kla_fn "<lambda>" q params body scope cl pm cv ctv) ⟨[], []⟩ = pure [])
    (hbody : ∀ (A : Around) (outer : List Env) (s : Shared) (H : Hp) (E : XK) (f c' : Addr), Room k (A.deeper (LamX.lamEnv X scope s.heap.objs.size f c')) → PE (LamX.lamCx X A outer s H E scope f c') body (t E))
    (hdb : (x == ("__debug__" : Str)) = false := by decide) (hd : (a == ("__debug__" : Str)) = false := by decide) (hcd : (a == ("__classdict__" : Str)) = false := by decide) :
    PE X (.Call (.Name x q1) [.Lambda params body scope q2] [] q3) (LamX.tLam T TT t) := by
  obtain ⟨oc, od, kV, doc, pm, an, cdv, ct, osl, rfl, lk, code⟩ := F.ex
  exact LamX.pe_lamcall hg hm F.kp lk code hb Sg hNg hva (hG cdv) TB hcode hmT hu hr L hdef hbind hbody hdb hd hcd
end
/-! ### what is kept when tables grow -/
open LamX in
/-- all but m and the tables stays -/
def KpN (m : Addr) (H H' : Hp) : Prop := ∀ b o, b ≠ m → H b = some o → (∀ ps, o ≠ .tbl ps) → H' b = some o
section
open LamX
variable {H H1 H2 : Hp} {m p : Addr} {K : PySem.W.Frag} {xs : List V}
theorem ExtN.kp (e : ExtN H H1) : KpN m H H1 := fun b o _ h n => e b o h n
theorem KpN.of (e : Kp m H H1) : KpN m H H1 := fun b o hb h _ => e b o hb h
theorem KpN.trans (a : KpN m H H1) (b : KpN m H1 H2) : KpN m H H2 := fun c o hc h n => b c o hc (a c o hc h n) n
theorem ExtN.same (e : Same H H1) : ExtN H H1 := fun b o h _ => e b o h
theorem ExtN.tup (e : ExtN H H1) (h : H p = some (.tup xs)) : H1 p = some (.tup xs) := e p _ h fun ps z => nomatch z
theorem ExtN.lst (e : ExtN H H1) (h : H p = some (.lst xs)) : H1 p = some (.lst xs) := e p _ h fun ps z => nomatch z
theorem ExtN.dK {kvs : List (Key × V)} (e : ExtN H H1) (h : H p = some (.dK kvs)) : H1 p = some (.dK kvs) := e p _ h fun ps z => nomatch z
theorem ExtN.seqT (e : ExtN H H1) (h : SqT K H p xs) : SqT K H1 p xs := by
  rcases h with (h | ⟨o, h⟩) | h
  · exact .inl (.inl (e _ _ h fun ps z => nomatch z))
  · exact .inl (.inr ⟨o, e _ _ h fun ps z => nomatch z⟩)
  · exact .inr h
theorem Tk.ofN (e : ExtN H H1) : Tk H H1 := fun q ys h => e q _ h fun ps z => nomatch z
theorem TabsKp {T : List (Addr × Str)} {kvs : List (Key × V)} (t : Tabs T H) (k : Kp m H H1) (hm : H m = some (.dK kvs)) : Tabs T H1 := by
  intro q hq
  obtain ⟨ps, h1, h2, h3⟩ := t q hq
  refine ⟨ps, k.get h1 hm (fun z => nomatch z), h2, fun pos cv hc => ?_⟩
  obtain ⟨c, e1, e2⟩ := h3 pos cv hc
  exact ⟨c, e1, k.get e2 hm (fun z => by unfold CodeO at z; cases z)⟩
end
end Gd
namespace Gd
open PySem PySem.Spec PyProof.Rows L2
theorem takes_len {X : Cx} {W : WX} (tk : Takes X W) : Takes X (fun cls d σ H => σ.length = X.N.length → W cls d σ H) := by
  intro u t hx
  obtain ⟨a, B, sI, pins', σ', H', cls, d, rfl, J, nb, up, sky, na, os, ag, want⟩ := hx
  exact tk _ _ ⟨a, B, sI, pins', σ', H', cls, d, rfl, J, nb, up, sky, na, os, ag, want J.len⟩
theorem rd_xf {a : Addr} {cls : Value} {d : Option Addr} {C : Addr} {f : Str} {te : TE} {σ : L2.St} {H : Hp} {Q : VK} (h : te σ H fun x H1 => x = .ref a ∧ cls = .ref C ∧ ∃ (dd : Addr) (fs : List (Str × V)) (v : V), d = some dd ∧ H1 dd = some (.xd fs) ∧ fs.lookup f = some v ∧ Q v H1) : tXf a cls d C f te σ H Q := h
/-- what the clauses make of an exception: the first one that catches it tells its tag and the attribute -/
def wOut (K : PySem.W.Frag) (Q : VK) : List (Addr × Str × Str) → XK
  | [] => fun _ _ _ => False
  | (C, tag, f) :: r => fun cls d H => ∃ b, PySem.W.exmOne K cls (.ref C) = some b ∧
      (b = true → cls = .ref C ∧ ∃ (dd : Addr) (fs : List (Str × V)) (v : V), d = some dd ∧ H dd = some (.xd fs) ∧ fs.lookup f = some v ∧ ∀ p, H p = none → Q (.ref p) (upd H p (.tup [.str tag, v]))) ∧ (b = false → wOut K Q r cls d H)
def TOut (K : PySem.W.Frag) (l : List (Addr × Str × Str)) : (XK → Hp → VK → Prop) → Hp → VK → Prop := fun tl H Q =>
  tl (wOut K Q l) H fun v H1 => ([V.str "told", v] : List V).length ≤ sizeLine ∧ ∀ p, H1 p = none → ∃ u, some (some (V.ref p)) = some (some u) ∧ Q u (upd H1 p (.tup [.str "told", v]))
end Gd

namespace Lw
open PySem L2 Gd
def top (i : Nat) : Stmt := PySem.Challenge.pw_halftruths_k02_put_and_used.main.body.getD i (.Pass ⟨0, 0, 0, 0⟩)
abbrev s_UnknownName_init : Stmt := inClass (top 3) 0
abbrev s_TooGreat_init : Stmt := inClass (top 4) 0
abbrev s_OutOfRange_init : Stmt := inClass (top 5) 0
abbrev s_parts_of : Stmt := top 9
abbrev s_all_words : Stmt := top 10
abbrev s_words_in : Stmt := top 11
abbrev s_depth_of : Stmt := top 12
abbrev s_unknowns_of : Stmt := top 13
abbrev s_occurrences : Stmt := top 14
abbrev s_put_for : Stmt := top 15
abbrev s_changed : Stmt := top 16
abbrev s_used_times : Stmt := top 17
abbrev s_lowest_terms : Stmt := top 19
abbrev s_fraction : Stmt := top 20
abbrev s_denominator_of : Stmt := top 21
abbrev s_number_given : Stmt := top 22
abbrev s_number_of : Stmt := top 23
abbrev s_numbers_for : Stmt := top 24
abbrev s_check_names : Stmt := top 25
abbrev s_value_at : Stmt := top 26
abbrev s_law_begun : Stmt := top 28
abbrev s_law_draw : Stmt := top 29
abbrev s_law_of : Stmt := top 30
abbrev s_law_saying : Stmt := top 31
abbrev s_law_size : Stmt := top 33
abbrev s_law_put : Stmt := top 34
abbrev s_law_far : Stmt := top 35
abbrev s_law_outcome : Stmt := top 36
abbrev s_law_other : Stmt := top 37
abbrev s_law_put_right : Stmt := top 38
abbrev s_law_used_right : Stmt := top 39
abbrev s_law : Stmt := top 40
/-- what the top has written -/
structure Txt (P : Program) (K : PySem.W.Frag) (mg : Str → Option Value) where
  f_parts_of : Addr
  d_parts_of : FuncData
  F_parts_of : Fun K "parts_of" "parts_of" s_parts_of f_parts_of d_parts_of
  b_parts_of : Binds K d_parts_of ["word"] []
  g_parts_of : mg "parts_of" = some (.ref f_parts_of)
  f_all_words : Addr
  d_all_words : FuncData
  F_all_words : Fun K "all_words" "all_words" s_all_words f_all_words d_all_words
  b_all_words : Binds K d_all_words ["saying"] []
  g_all_words : mg "all_words" = some (.ref f_all_words)
  f_words_in : Addr
  d_words_in : FuncData
  F_words_in : Fun K "words_in" "words_in" s_words_in f_words_in d_words_in
  b_words_in : Binds K d_words_in ["saying"] []
  g_words_in : mg "words_in" = some (.ref f_words_in)
  f_depth_of : Addr
  d_depth_of : FuncData
  F_depth_of : Fun K "depth_of" "depth_of" s_depth_of f_depth_of d_depth_of
  b_depth_of : Binds K d_depth_of ["saying"] []
  g_depth_of : mg "depth_of" = some (.ref f_depth_of)
  f_unknowns_of : Addr
  d_unknowns_of : FuncData
  F_unknowns_of : Fun K "unknowns_of" "unknowns_of" s_unknowns_of f_unknowns_of d_unknowns_of
  b_unknowns_of : Binds K d_unknowns_of ["sayings"] []
  g_unknowns_of : mg "unknowns_of" = some (.ref f_unknowns_of)
  f_occurrences : Addr
  d_occurrences : FuncData
  F_occurrences : Fun K "occurrences" "occurrences" s_occurrences f_occurrences d_occurrences
  b_occurrences : Binds K d_occurrences ["saying", "name"] []
  g_occurrences : mg "occurrences" = some (.ref f_occurrences)
  f_put_for : Addr
  d_put_for : FuncData
  F_put_for : Fun K "put_for" "put_for" s_put_for f_put_for d_put_for
  b_put_for : Binds K d_put_for ["saying", "name", "other"] []
  g_put_for : mg "put_for" = some (.ref f_put_for)
  f_changed : Addr
  d_changed : FuncData
  F_changed : Fun K "_changed" "_changed" s_changed f_changed d_changed
  b_changed : Binds K d_changed ["saying", "name", "other"] []
  g_changed : mg "_changed" = some (.ref f_changed)
  f_used_times : Addr
  d_used_times : FuncData
  F_used_times : Fun K "used_times" "used_times" s_used_times f_used_times d_used_times
  b_used_times : Binds K d_used_times ["saying", "count"] []
  g_used_times : mg "used_times" = some (.ref f_used_times)
  f_lowest_terms : Addr
  d_lowest_terms : FuncData
  F_lowest_terms : Fun K "lowest_terms" "lowest_terms" s_lowest_terms f_lowest_terms d_lowest_terms
  b_lowest_terms : Binds K d_lowest_terms ["above", "below"] []
  g_lowest_terms : mg "lowest_terms" = some (.ref f_lowest_terms)
  f_fraction : Addr
  d_fraction : FuncData
  F_fraction : Fun K "fraction" "fraction" s_fraction f_fraction d_fraction
  b_fraction : Binds K d_fraction ["above", "below"] []
  g_fraction : mg "fraction" = some (.ref f_fraction)
  f_denominator_of : Addr
  d_denominator_of : FuncData
  F_denominator_of : Fun K "denominator_of" "denominator_of" s_denominator_of f_denominator_of d_denominator_of
  b_denominator_of : Binds K d_denominator_of ["point"] []
  g_denominator_of : mg "denominator_of" = some (.ref f_denominator_of)
  f_number_given : Addr
  d_number_given : FuncData
  F_number_given : Fun K "number_given" "number_given" s_number_given f_number_given d_number_given
  b_number_given : Binds K d_number_given ["mark", "first", "second", "whole"] []
  g_number_given : mg "number_given" = some (.ref f_number_given)
  f_number_of : Addr
  d_number_of : FuncData
  F_number_of : Fun K "number_of" "number_of" s_number_of f_number_of d_number_of
  b_number_of : Binds K d_number_of ["saying", "numbers", "whole"] []
  g_number_of : mg "number_of" = some (.ref f_number_of)
  f_numbers_for : Addr
  d_numbers_for : FuncData
  F_numbers_for : Fun K "numbers_for" "numbers_for" s_numbers_for f_numbers_for d_numbers_for
  b_numbers_for : Binds K d_numbers_for ["names", "point"] []
  g_numbers_for : mg "numbers_for" = some (.ref f_numbers_for)
  f_check_names : Addr
  d_check_names : FuncData
  F_check_names : Fun K "check_names" "check_names" s_check_names f_check_names d_check_names
  b_check_names : Binds K d_check_names ["needed", "names"] []
  g_check_names : mg "check_names" = some (.ref f_check_names)
  f_value_at : Addr
  d_value_at : FuncData
  F_value_at : Fun K "value_at" "value_at" s_value_at f_value_at d_value_at
  b_value_at : Binds K d_value_at ["saying", "names", "point"] []
  g_value_at : mg "value_at" = some (.ref f_value_at)
  f_law_begun : Addr
  d_law_begun : FuncData
  F_law_begun : Fun K "_law_begun" "_law_begun" s_law_begun f_law_begun d_law_begun
  b_law_begun : Binds K d_law_begun ["script", "k"] []
  g_law_begun : mg "_law_begun" = some (.ref f_law_begun)
  f_law_draw : Addr
  d_law_draw : FuncData
  F_law_draw : Fun K "_law_draw" "_law_draw" s_law_draw f_law_draw d_law_draw
  b_law_draw : Binds K d_law_draw ["m", "below"] []
  g_law_draw : mg "_law_draw" = some (.ref f_law_draw)
  f_law_of : Addr
  d_law_of : FuncData
  F_law_of : Fun K "_law_of" "_law_of" s_law_of f_law_of d_law_of
  b_law_of : Binds K d_law_of ["m", "some"] []
  g_law_of : mg "_law_of" = some (.ref f_law_of)
  f_law_saying : Addr
  d_law_saying : FuncData
  F_law_saying : Fun K "_law_saying" "_law_saying" s_law_saying f_law_saying d_law_saying
  b_law_saying : Binds K d_law_saying ["m", "names", "size"] []
  g_law_saying : mg "_law_saying" = some (.ref f_law_saying)
  f_law_size : Addr
  d_law_size : FuncData
  F_law_size : Fun K "_law_size" "_law_size" s_law_size f_law_size d_law_size
  b_law_size : Binds K d_law_size ["saying", "name", "words", "depth"] []
  g_law_size : mg "_law_size" = some (.ref f_law_size)
  f_law_put : Addr
  d_law_put : FuncData
  F_law_put : Fun K "_law_put" "_law_put" s_law_put f_law_put d_law_put
  b_law_put : Binds K d_law_put ["saying", "name", "other"] []
  g_law_put : mg "_law_put" = some (.ref f_law_put)
  f_law_far : Addr
  d_law_far : FuncData
  F_law_far : Fun K "_law_far" "_law_far" s_law_far f_law_far d_law_far
  b_law_far : Binds K d_law_far ["many", "deep"] []
  g_law_far : mg "_law_far" = some (.ref f_law_far)
  f_law_outcome : Addr
  d_law_outcome : FuncData
  F_law_outcome : Fun K "_law_outcome" "_law_outcome" s_law_outcome f_law_outcome d_law_outcome
  b_law_outcome : Binds K d_law_outcome ["call"] []
  g_law_outcome : mg "_law_outcome" = some (.ref f_law_outcome)
  f_law_other : Addr
  d_law_other : FuncData
  F_law_other : Fun K "_law_other" "_law_other" s_law_other f_law_other d_law_other
  b_law_other : Binds K d_law_other ["m"] []
  g_law_other : mg "_law_other" = some (.ref f_law_other)
  f_law_put_right : Addr
  d_law_put_right : FuncData
  c_law_put_right : Addr
  P_law_put_right : Addr
  F_law_put_right : FunL K "_law_put_right" "_law_put_right" s_law_put_right f_law_put_right d_law_put_right c_law_put_right
  b_law_put_right : Binds K d_law_put_right ["m"] []
  g_law_put_right : mg "_law_put_right" = some (.ref f_law_put_right)
  f_law_used_right : Addr
  d_law_used_right : FuncData
  c_law_used_right : Addr
  P_law_used_right : Addr
  F_law_used_right : FunL K "_law_used_right" "_law_used_right" s_law_used_right f_law_used_right d_law_used_right c_law_used_right
  b_law_used_right : Binds K d_law_used_right ["m"] []
  g_law_used_right : mg "_law_used_right" = some (.ref f_law_used_right)
  q_law_put_right_law_used_right : P_law_put_right ≠ P_law_used_right
  m_gcd : mg "gcd" = some (.builtin "math.gcd")
  m_lcm : mg "lcm" = some (.builtin "math.lcm")
  C_UnknownName : Addr
  m_UnknownName : mg "UnknownName" = some (.ref C_UnknownName)
  o_UnknownName : OexC K C_UnknownName
  x_UnknownName : XfC K C_UnknownName
  f_UnknownName_init : Addr
  d_UnknownName_init : FuncData
  F_UnknownName_init : SupFun P K C_UnknownName "UnknownName.__init__" s_UnknownName_init f_UnknownName_init d_UnknownName_init
  S_UnknownName : SupC P K C_UnknownName
  b_UnknownName_init : Binds K d_UnknownName_init ["self", "name"] []
  i_UnknownName : PySem.W.findIn K (.ref C_UnknownName) "__init__" = some (some (.ref f_UnknownName_init))
  t_UnknownName : PySem.W.typeIn K (.ref f_UnknownName_init) = some (.type "function")
  n_UnknownName_name : PySem.W.findIn K (.ref C_UnknownName) "name" = some none
  C_TooGreat : Addr
  m_TooGreat : mg "TooGreat" = some (.ref C_TooGreat)
  o_TooGreat : OexC K C_TooGreat
  x_TooGreat : XfC K C_TooGreat
  f_TooGreat_init : Addr
  d_TooGreat_init : FuncData
  F_TooGreat_init : SupFun P K C_TooGreat "TooGreat.__init__" s_TooGreat_init f_TooGreat_init d_TooGreat_init
  S_TooGreat : SupC P K C_TooGreat
  b_TooGreat_init : Binds K d_TooGreat_init ["self", "what"] []
  i_TooGreat : PySem.W.findIn K (.ref C_TooGreat) "__init__" = some (some (.ref f_TooGreat_init))
  t_TooGreat : PySem.W.typeIn K (.ref f_TooGreat_init) = some (.type "function")
  n_TooGreat_what : PySem.W.findIn K (.ref C_TooGreat) "what" = some none
  C_OutOfRange : Addr
  m_OutOfRange : mg "OutOfRange" = some (.ref C_OutOfRange)
  o_OutOfRange : OexC K C_OutOfRange
  x_OutOfRange : XfC K C_OutOfRange
  f_OutOfRange_init : Addr
  d_OutOfRange_init : FuncData
  F_OutOfRange_init : SupFun P K C_OutOfRange "OutOfRange.__init__" s_OutOfRange_init f_OutOfRange_init d_OutOfRange_init
  S_OutOfRange : SupC P K C_OutOfRange
  b_OutOfRange_init : Binds K d_OutOfRange_init ["self", "value"] []
  i_OutOfRange : PySem.W.findIn K (.ref C_OutOfRange) "__init__" = some (some (.ref f_OutOfRange_init))
  t_OutOfRange : PySem.W.typeIn K (.ref f_OutOfRange_init) = some (.type "function")
  n_OutOfRange_value : PySem.W.findIn K (.ref C_OutOfRange) "value" = some none
  e_UnknownName_TooGreat : PySem.W.exmOne K (.ref C_UnknownName) (.ref C_TooGreat) = some false
  e_TooGreat_TooGreat : PySem.W.exmOne K (.ref C_TooGreat) (.ref C_TooGreat) = some true
  e_OutOfRange_TooGreat : PySem.W.exmOne K (.ref C_OutOfRange) (.ref C_TooGreat) = some false
  z_super : mg "super" = none
  z_len : mg "len" = none
  z_max : mg "max" = none
  z_tuple : mg "tuple" = none
  z_list : mg "list" = none
  z_range : mg "range" = none
  z_min : mg "min" = none
  z_abs : mg "abs" = none
  z_zip : mg "zip" = none
  z_int : mg "int" = none
  z_repr : mg "repr" = none
  u_MOST_WORDS : Value
  c_MOST_WORDS : mg "MOST_WORDS" = some u_MOST_WORDS
  r_MOST_WORDS : RelV (.int 1000) u_MOST_WORDS
  u_MOST_DEPTH : Value
  c_MOST_DEPTH : mg "MOST_DEPTH" = some u_MOST_DEPTH
  r_MOST_DEPTH : RelV (.int 60) u_MOST_DEPTH
def tabsT {P : Program} {K : PySem.W.Frag} {mg : Str → Option Value} (T : Txt P K mg) : List (Addr × Str) := [(T.P_law_put_right, (("_law_put_right" : Str) ++ ".<locals>.") ++ "<lambda>"), (T.P_law_used_right, (("_law_used_right" : Str) ++ ".<locals>.") ++ "<lambda>")]
theorem lamM_law_put_right {P : Program} {K : PySem.W.Frag} {mg : Str → Option Value} (T : Txt P K mg) : (T.P_law_put_right, (("_law_put_right" : Str) ++ ".<locals>.") ++ "<lambda>") ∈ tabsT T := by
  unfold tabsT
  exact (List.mem_cons_self ..)
theorem lamU_law_put_right {P : Program} {K : PySem.W.Frag} {mg : Str → Option Value} (T : Txt P K mg) : ∀ y ∈ tabsT T, y.1 = T.P_law_put_right → y.2 = (("_law_put_right" : Str) ++ ".<locals>.") ++ "<lambda>" := by
  intro y hp e
  unfold tabsT at hp
  rcases List.mem_cons.mp hp with rfl | hp
  · rfl
  rcases List.mem_cons.mp hp with rfl | hp
  · exact absurd e (Ne.symm T.q_law_put_right_law_used_right)
  cases hp
theorem lamM_law_used_right {P : Program} {K : PySem.W.Frag} {mg : Str → Option Value} (T : Txt P K mg) : (T.P_law_used_right, (("_law_used_right" : Str) ++ ".<locals>.") ++ "<lambda>") ∈ tabsT T := by
  unfold tabsT
  exact (List.mem_cons_of_mem _ (List.mem_cons_self ..))
theorem lamU_law_used_right {P : Program} {K : PySem.W.Frag} {mg : Str → Option Value} (T : Txt P K mg) : ∀ y ∈ tabsT T, y.1 = T.P_law_used_right → y.2 = (("_law_used_right" : Str) ++ ".<locals>.") ++ "<lambda>" := by
  intro y hp e
  unfold tabsT at hp
  rcases List.mem_cons.mp hp with rfl | hp
  · exact absurd e T.q_law_put_right_law_used_right
  rcases List.mem_cons.mp hp with rfl | hp
  · rfl
  cases hp

local macro_rules | `(tactic| walk_at "rd1") => `(tactic| first
  | with_reducible refine rd_for ?_ | with_reducible refine rd_lc ?_ | with_reducible refine rd_iL ?_ | with_reducible refine rd_iT ?_ | with_reducible refine rd_iR1 ?_ | with_reducible refine rd_iZ ?_
  | with_reducible refine rd_pcons ?_ | with_reducible refine rd_pnil ?_ | with_reducible refine rd_disp ?_
  | with_reducible refine rd_bm ?_ | with_reducible refine rd_bm0 ?_ | with_reducible refine rd_revT ?_
  | with_reducible refine rd_gname ?_ | with_reducible refine rd_gcons ?_ | with_reducible refine rd_gnil ?_
  | with_reducible refine rd_seq ?_ | with_reducible refine rd_asg ?_ | with_reducible refine rd_asgG ?_ | with_reducible refine rd_ii ?_ | with_reducible refine rd_op ?_ | with_reducible refine rd_c ?_
  | ((with_reducible refine' rd_var ?rdh ?_); (case rdh => rfl))
  | with_reducible refine rd_i0 ?_ | with_reducible refine rd_ret ?_ | with_reducible refine rd_ifs ?_ | with_reducible refine rd_test ?_ | with_reducible refine rd_bl ?_
  | with_reducible refine rd_cb ?_ | with_reducible refine rd_cons ?_ | with_reducible refine rd_nil ?_ | with_reducible refine rd_call ?_
  | with_reducible refine rd_tup ?_ | with_reducible refine rd_lst ?_ | with_reducible refine rd_if ?_ | with_reducible refine rd_un ?_ | with_reducible refine rd_u ?_
  | with_reducible refine rd_dget ?_ | with_reducible refine rd_dput ?_ | with_reducible refine rd_par ?_ | with_reducible refine rd_pair ?_ | with_reducible refine rd_intI ?_
  | with_reducible refine rd_sl ?_ | with_reducible refine rd_nopart ?_ | with_reducible refine rd_part ?_ | with_reducible refine rd_int ?_
  | with_reducible refine rd_next ?_ | with_reducible refine rd_drop ?_ | with_reducible refine rd_retN ?_ | with_reducible refine rd_tb ?_
  | with_reducible refine rd_and ?_ | with_reducible refine rd_or ?_ | with_reducible refine rd_not ?_ | with_reducible refine rd_andV ?_ | with_reducible refine rd_orV ?_ | with_reducible refine rd_notV ?_
  | ((with_reducible refine rd_eq ?rdh ?_); (case rdh => rfl)) | ((with_reducible refine rd_ne ?rdh ?_); (case rdh => rfl))
  | ((with_reducible refine rd_i ?rdh ?_); (case rdh => first | decide | omega | exact ⟨by omega, by omega⟩ | exact ⟨by decide, by decide, by decide⟩ | exact .inl ⟨by omega, by omega⟩ | exact .inr ⟨by omega, by omega⟩))
  | (fail_if_success (with_reducible refine rd_i ?_ ?_)); dsimp only)
local macro_rules | `(tactic| walk_at "rd") => `(tactic| repeat (walk_at "rd1"))
local macro_rules | `(tactic| walk_at "difs") => `(tactic| (walk_at "rd"; repeat ((first | refine rd_true (by decide +kernel) ?_ | refine rd_false (by decide +kernel) ?_); walk_at "rd")))

/-! ### fractions: lowest terms, common denominators -/
/-- the fraction a/b in lowest terms -/
def lowT (a b : Int) : List Int := [a / (Int.gcd a b : Int), b / (Int.gcd a b : Int)]
/-- the same where b may be below 0 -/
def lowN (a b : Int) : List Int := if b < 0 then lowT (-a) (-b) else lowT a b
def spLowN : Sp := fun vs H Q _ => ∃ a b : Int, vs = [.int a, .int b] ∧ b ≠ 0 ∧ b.natAbs < 10 ^ 40 ∧
  ∀ (p : Addr) (H' : Hp), Same H H' → H' p = some (.tup ((lowN a b).map V.int)) → Q (.ref p) H'
def spLow : Sp := fun vs H Q _ => ∃ a b : Int, vs = [.int a, .int b] ∧ 0 < b ∧ b.natAbs < 10 ^ 40 ∧
  ∀ (p : Addr) (H' : Hp), Same H H' → H' p = some (.tup [.int (a / (Int.gcd a b : Int)), .int (b / (Int.gcd a b : Int))]) → Q (.ref p) H'
theorem gcd_pos {a b : Int} (h : 0 < b) : 0 < Int.gcd a b := Nat.gcd_pos_of_pos_right _ (by omega)
theorem gcd_le {a b : Int} (h : 0 < b) : Int.gcd a b ≤ b.natAbs := Nat.le_of_dvd (by omega) (Nat.gcd_dvd_right _ _)
theorem div40 {a b : Int} (h : 0 < b) (hb : b.natAbs < 10 ^ 40) : CDivW a b := wide_div h (b := 140) (Nat.lt_trans hb (by decide)) (by decide) (by decide)
/-- // by what is not 0 -/
def CDivB (_ j : Int) : Prop := j ≠ 0 ∧ j.natAbs.log2 < 9000
theorem op_fdivB {X : Cx} : OpR X (binaryOp .FloorDiv) (rI CDivB fun i j => .int (i.fdiv j)) := opI fun _ _ _ _ _ _ _ hc q => PyProof.Rows.floordiv_int hc.1 q (.inl (PyProof.noPylong_of_log2 hc.2))
theorem div_low {a g : Int} (h : g ≠ 0) (d : g ∣ a) : a.fdiv g = a / g ∧ a.fdiv (-g) = (-a) / g := by
  obtain ⟨e, rfl⟩ := d
  refine ⟨?_, ?_⟩
  · rw [Int.mul_fdiv_cancel_left _ h, Int.mul_ediv_cancel_left _ h]
  · have e1 : g * e = -g * -e := by rw [Int.neg_mul_neg]
    have e2 : -(g * e) = g * -e := by rw [Int.mul_neg]
    rw [e2, Int.mul_ediv_cancel_left _ h, e1, Int.mul_fdiv_cancel_left _ (by omega)]
section
variable {P : Program} {w : World} {K : PySem.W.Frag} {mg : Str → Option Value} {base : Heap}
theorem sc_lowest_terms : FnScope ["above", "below", "common"] ["above", "below"] (defScope s_lowest_terms) := ⟨rfl, rfl, rfl, by decide +kernel, rfl, by decide +kernel, by decide +kernel⟩
theorem ok_lowest_terms (T : Txt P K mg) {k : Nat} : FnOk P w K mg base CX0 (k + 1) T.f_lowest_terms T.d_lowest_terms ["above", "below"] spLowN := by
  refine T.F_lowest_terms.ok sc_lowest_terms (fun vs H Q E h => ?_) (fun cdv A outer s H vs Q E hr h => ?_)
  · obtain ⟨a, b, rfl, _⟩ := h
    rfl
  obtain ⟨a, b, rfl, h0, hb, q⟩ := h
  refine ⟨_, (pss_cons (ps_set (i := 2) sc_lowest_terms.nd rfl (Or.inl rfl) (pe_callBfun cr_gcd (by rfl) T.m_gcd (pa_cons (pv 0) (pa_cons (pv 1) pa_nil))))
    (pss_cons (ps_if (pt_cmpR op_lt (pv 1) pe_int (by rfl)) (pss_one (ps_set (i := 2) sc_lowest_terms.nd rfl (Or.inl rfl) (pe_un un_neg (pv 2)))) pss_nil)
    (pss_one (ps_ret (pe_tup (pa_cons (pe_op op_fdivB (pv 0) (pv 2)) (pa_cons (pe_op op_fdivB (pv 1) (pv 2)) pa_nil))))))), ?_⟩
  try dsimp only [L2.cxOf, L2.Cx.nox]
  have g0 : 0 < Int.gcd a b := Nat.gcd_pos_of_pos_right _ (by omega)
  have g1 : Int.gcd a b ≤ b.natAbs := Nat.le_of_dvd (by omega) (Nat.gcd_dvd_right _ _)
  have gl : (Int.gcd a b).log2 < 9000 := PySem.Flt.log2_lt_of (k := 9000) (by decide) (Nat.lt_of_le_of_lt g1 (Nat.lt_trans hb (by decide)))
  obtain ⟨a1, a2⟩ := div_low (a := a) (g := (Int.gcd a b : Int)) (by omega) (Int.gcd_dvd_left ..)
  obtain ⟨b1, b2⟩ := div_low (a := b) (g := (Int.gcd a b : Int)) (by omega) (Int.gcd_dvd_right ..)
  have ge : Int.gcd a b = Nat.gcd a.natAbs b.natAbs := rfl
  rw [ge] at g0 g1 gl a1 a2 b1 b2
  walk_at "rd"
  refine ⟨a, b, rfl, ?_⟩
  walk_at "rd"
  refine rd_two (fun c => ?_) (fun c => ?_)
  · walk_at "rd"
    refine rd_i ⟨by omega, by rw [Int.natAbs_neg, Int.natAbs_natCast]; exact gl⟩ ?_
    walk_at "rd"
    refine rd_i ⟨by omega, by rw [Int.natAbs_neg, Int.natAbs_natCast]; exact gl⟩ ?_
    walk_at "rd"
    refine ⟨by show 2 ≤ sizeLine; decide, fun p np => ?_⟩
    refine q p _ (Same.new np _) ?_
    rw [upd_same, a2, b2]
    unfold lowN
    rw [if_pos c]
    unfold lowT
    rw [Int.gcd_neg, Int.neg_gcd]
    rfl
  · walk_at "rd"
    refine rd_i ⟨by omega, by rw [Int.natAbs_natCast]; exact gl⟩ ?_
    walk_at "rd"
    refine rd_i ⟨by omega, by rw [Int.natAbs_natCast]; exact gl⟩ ?_
    walk_at "rd"
    refine ⟨by show 2 ≤ sizeLine; decide, fun p np => ?_⟩
    refine q p _ (Same.new np _) ?_
    rw [upd_same, a1, b1]
    unfold lowN
    rw [if_neg c]
    rfl
def cden (ps : List (Int × Int)) : Nat := ps.foldl (fun c p => Nat.lcm c p.2.natAbs) 1
/-- denominators as they come up here -/
def DenOk (ps : List (Int × Int)) : Prop := ∀ p ∈ ps, 0 < p.2 ∧ p.2.natAbs ∣ 504
theorem cden_more {ps : List (Int × Int)} {i : Nat} {p : Int × Int} (h : ps[i]? = some p) : cden (ps.take (i + 1)) = Nat.lcm (cden (ps.take i)) p.2.natAbs := by
  unfold cden
  rw [List.take_add_one, h, List.foldl_append]
  rfl
theorem cden_small {ps : List (Int × Int)} (h : DenOk ps) : ∀ i, i ≤ ps.length → 0 < cden (ps.take i) ∧ cden (ps.take i) ∣ 504
  | 0, _ => ⟨by rw [List.take_zero]; exact Nat.one_pos, by rw [List.take_zero]; exact Nat.one_dvd _⟩
  | i + 1, hi => by
    obtain ⟨c0, cd⟩ := cden_small h i (by omega)
    have hp : ps[i]? = some ps[i] := List.getElem?_eq_getElem (by omega)
    obtain ⟨d0, hd⟩ := h ps[i] (List.getElem_mem _)
    rw [cden_more hp]
    exact ⟨Nat.lcm_pos c0 (by omega), Nat.lcm_dvd cd hd⟩
theorem cden_lt {ps : List (Int × Int)} (h : DenOk ps) {i : Nat} (hi : i ≤ ps.length) (h5 : i ≤ 6) : cden (ps.take i) < 10 ^ 16 := by
  obtain ⟨c0, cd⟩ := cden_small h i hi
  exact Nat.lt_of_le_of_lt (Nat.le_of_dvd (by decide) cd) (by decide)
theorem cden_dvd {ps : List (Int × Int)} : ∀ i, i ≤ ps.length → ∀ p ∈ ps.take i, p.2.natAbs ∣ cden (ps.take i)
  | 0, _, p, h => by
    rw [List.take_zero] at h
    cases h
  | i + 1, hi, p, h => by
    have hp : ps[i]? = some ps[i] := List.getElem?_eq_getElem (by omega)
    rw [cden_more hp]
    rw [List.take_add_one, hp] at h
    rcases List.mem_append.mp h with h | h
    · exact Nat.dvd_trans (cden_dvd i (by omega) p h) (Nat.dvd_lcm_left _ _)
    · obtain rfl : p = ps[i] := by simpa using h
      exact Nat.dvd_lcm_right _ _
def spDen (K : PySem.W.Frag) : Sp := fun vs H Q _ => ∃ (a : Addr) (xs : List V) (ps : List (Int × Int)), vs = [.ref a] ∧ SqT K H a xs ∧ PrsAt K H ps xs ∧ DenOk ps ∧ ps.length ≤ 6 ∧
  ∀ H' : Hp, Same H H' → Q (.int (cden ps : Int)) H'
theorem sc_denominator_of : FnScope ["point", "common", "value"] ["point"] (defScope s_denominator_of) := ⟨rfl, rfl, rfl, by decide +kernel, rfl, by decide +kernel, by decide +kernel⟩
theorem ok_denominator_of (T : Txt P K mg) {k : Nat} : FnOk P w K mg base CX0 (k + 1) T.f_denominator_of T.d_denominator_of ["point"] (spDen K) := by
  refine T.F_denominator_of.ok sc_denominator_of (fun vs H Q E h => ?_) (fun cdv A outer s H vs Q E hr h => ?_)
  · obtain ⟨a, xs, ps, rfl, _⟩ := h
    rfl
  obtain ⟨a, xs, ps, rfl, ha, hp, hd, h5, q⟩ := h
  refine ⟨_, (pss_cons (ps_set (i := 1) sc_denominator_of.nd rfl (Or.inl rfl) pe_int)
    (pss_cons (ps_for PassesOwn.never rfl (pi_tup (pv 0)) (pg_name (i := 2) sc_denominator_of.nd rfl (Or.inl rfl)) (pss_one (ps_set (i := 1) sc_denominator_of.nd rfl (Or.inl rfl) (pe_callBfun cr_lcm (by rfl) T.m_lcm (pa_cons (pv 1) (pa_cons (pe_ix (ix_tupK K) (pv 2) pe_int (fun _ _ => rfl)) pa_nil))))))
    (pss_one (ps_ret (pv 1))))), ?_⟩
  try dsimp only [L2.cxOf, L2.Cx.nox]
  walk_at "rd"
  refine rd_atT ha (forT (xs := xs) (fun i σ H' => ∃ y : Option V, σ = [some (.ref a), some (.int (cden (ps.take i) : Int)), y] ∧ H' = H) ⟨none, rfl, rfl⟩ (fun i σ H' _ ⟨_, _, z⟩ => by rw [z]; exact ha) ?_ ?_)
  · rintro i x σ H' hi ⟨y, rfl, rfl⟩
    obtain ⟨u, v, p, hpi, rfl, hpp⟩ := hp.get hi
    have hil : i < ps.length := (List.getElem?_eq_some_iff.mp hpi).1
    have c1 := cden_lt hd (i := i) (by omega) (by omega)
    have hv := hd (u, v) (List.mem_of_getElem? hpi)
    have v0 : 0 < v := hv.1
    have v1 : v.natAbs ≤ 1000003 := Nat.le_trans (Nat.le_of_dvd (by decide) hv.2) (by decide)
    walk_at "rd"
    refine rd_ixT hpp (atI_nat (j := 1) rfl) ?_
    walk_at "rd"
    refine ⟨_, v, rfl, ?_, ?_, ?_⟩
    · exact Nat.lt_of_lt_of_le (show ((cden (ps.take i) : Nat) : Int).natAbs < 10 ^ 16 by rw [Int.natAbs_natCast]; exact c1) (by decide)
    · exact Nat.lt_of_le_of_lt v1 (by decide)
    · walk_at "rd"
      refine ⟨some (.ref p), ?_, rfl⟩
      rw [cden_more hpi, Int.natAbs_natCast]
      rfl
  · rintro σ H' ⟨y, rfl, rfl⟩
    walk_at "rd"
    rw [← hp.length, List.take_length]
    exact q H' (Same.refl _)
end
/-! ### lowest terms do not change when both are taken so many times -/
theorem lowT_mul {t a b : Int} (ht : 0 < t) : lowT (t * a) (t * b) = lowT a b := by
  unfold lowT
  have e : (Int.gcd (t * a) (t * b) : Int) = t * (Int.gcd a b : Int) := by
    rw [Int.gcd_mul_left, Int.natCast_mul, Int.natAbs_of_nonneg (Int.le_of_lt ht)]
  rw [e, Int.mul_ediv_mul_of_pos _ _ ht, Int.mul_ediv_mul_of_pos _ _ ht]
/-- values from 0 to 1 -/
def NumOk (ps : List (Int × Int)) : Prop := ∀ p ∈ ps, 0 ≤ p.1 ∧ p.1 ≤ p.2
theorem same_sqT {K : PySem.W.Frag} {H H' : Hp} (s : Same H H') : ∀ p xs, SqT K H p xs → SqT K H' p xs := fun _ _ h => s.seqT h
theorem den_lt {ps : List (Int × Int)} (h : DenOk ps) {p : Int × Int} (hp : p ∈ ps) : 0 < p.2 ∧ p.2.natAbs ≤ 1000003 := by
  obtain ⟨h0, h1⟩ := h p hp
  exact ⟨h0, Nat.le_trans (Nat.le_of_dvd (by decide) h1) (by decide)⟩

/-! ### the draws -/
/-- at m stands a state from which at most n draws by place were made -/
def MAt (H : Hp) (m : Addr) (n : Nat) : Prop := ∃ (l s p : Int) (c : Addr) (cs : List Int), H m = some (.dK (mk l s c p)) ∧ H c = some (.lst (cs.map V.int)) ∧
  cs ≠ [] ∧ cs.length ≤ 200 ∧ 0 ≤ l ∧ 0 ≤ s ∧ s < 2147483647 ∧ 0 ≤ p ∧ p ≤ (n : Int)
theorem MAt.mono {H : Hp} {m : Addr} {n k : Nat} (h : MAt H m n) (q : n ≤ k) : MAt H m k := by
  obtain ⟨l, s, p, c, cs, a1, a2, a3, a4, a5, a6, a7, a8, a9⟩ := h
  exact ⟨l, s, p, c, cs, a1, a2, a3, a4, a5, a6, a7, a8, by omega⟩
theorem MAt.same {H H' : Hp} {m : Addr} {n : Nat} (h : MAt H m n) (q : Same H H') : MAt H' m n := by
  obtain ⟨l, s, p, c, cs, a1, a2, r⟩ := h
  exact ⟨l, s, p, c, cs, q _ _ a1, q _ _ a2, r⟩
theorem MAt.dict {H : Hp} {m : Addr} {n : Nat} (h : MAt H m n) : ∃ kvs, H m = some (.dK kvs) := by
  obtain ⟨l, s, p, c, cs, a1, _⟩ := h
  exact ⟨_, a1⟩
theorem MAt.tup {H H' : Hp} {m p : Addr} {n : Nat} {xs : List V} (h : MAt H m n) (k : Kp m H H') (e : H p = some (.tup xs)) : H' p = some (.tup xs) := by
  obtain ⟨kvs, hm⟩ := h.dict
  exact k.get e hm (fun z => nomatch z)
theorem MAt.lst {H H' : Hp} {m p : Addr} {n : Nat} {xs : List V} (h : MAt H m n) (k : Kp m H H') (e : H p = some (.lst xs)) : H' p = some (.lst xs) := by
  obtain ⟨kvs, hm⟩ := h.dict
  exact k.get e hm (fun z => nomatch z)
def spDraw : Sp := fun vs H Q _ => ∃ (m : Addr) (n : Nat) (below : Int), vs = [.ref m, .int below] ∧ MAt H m n ∧ n ≤ 1000000 ∧ 0 < below ∧ below < 2 ^ 1000 ∧
  ∀ (r : Int) (H' : Hp), 0 ≤ r → r < below → Kp m H H' → MAt H' m (n + 1) → Q (.int r) H'
/-- the list of the cells of the state at m -/
def Cel (H : Hp) (m c : Addr) : Prop := ∃ l s p : Int, H m = some (.dK (mk l s c p))
theorem Cel.eq {H : Hp} {m c d : Addr} {l s p : Int} (h : Cel H m d) (e : H m = some (.dK (mk l s c p))) : c = d := by
  obtain ⟨l', s', p', e'⟩ := h
  rw [e] at e'
  have e2 := HO.dK.inj (Option.some.inj e')
  unfold mk at e2
  simp only [List.cons.injEq, Prod.mk.injEq, V.ref.injEq] at e2
  exact e2.2.2.1.2
theorem MAt.cel {H : Hp} {m : Addr} {n : Nat} (h : MAt H m n) : ∃ c, Cel H m c ∧ (∃ o, H c = some o) := by
  obtain ⟨l, s, p, c, cs, a1, a2, _⟩ := h
  exact ⟨c, ⟨l, s, p, a1⟩, _, a2⟩
theorem MAt.upd {H : Hp} {m c a : Addr} {n : Nat} (h : MAt H m n) (hc : Cel H m c) (h1 : a ≠ m) (h2 : a ≠ c) (o : HO) : MAt (upd H a o) m n := by
  obtain ⟨l, s, p, c', cs, a1, a2, r⟩ := h
  obtain rfl := hc.eq a1
  exact ⟨l, s, p, c', cs, by rw [upd_ne (Ne.symm h1)]; exact a1, by rw [upd_ne (Ne.symm h2)]; exact a2, r⟩
def spDrawC : Sp := fun vs H Q _ => ∃ (m : Addr) (n : Nat) (below : Int), vs = [.ref m, .int below] ∧ MAt H m n ∧ n ≤ 1000000 ∧ 0 < below ∧ below < 2 ^ 1000 ∧
  ∀ (r : Int) (H' : Hp), 0 ≤ r → r < below → Kp m H H' → MAt H' m (n + 1) → (∀ c, Cel H m c → Cel H' m c) → Q (.int r) H'
theorem FnOk_weak {P : Program} {w : World} {K : PySem.W.Frag} {mg : Str → Option Value} {base : Heap} {CX : CXT} {k : Nat} {f : Addr} {fd : FuncData} {ps : List Str} {sp sp' : Sp} (F : FnOk P w K mg base CX k f fd ps sp) (h : ∀ vs H Q E, sp' vs H Q E → sp vs H Q E) : FnOk P w K mg base CX k f fd ps sp' :=
  ⟨fun vs H Q E z => F.len vs H Q E (h vs H Q E z), fun A outer s H args us vs Q E hr e0 hb r z => F.run A outer s H args us vs Q E hr e0 hb r (h vs H Q E z)⟩
section
variable {P : Program} {w : World} {K : PySem.W.Frag} {mg : Str → Option Value} {base : Heap}
theorem sc_law_draw : FnScope ["m", "below", "found", "spot", "cells", "added", "cell", "blend"] ["m", "below"] (defScope s_law_draw) := ⟨rfl, rfl, rfl, by decide +kernel, rfl, by decide +kernel, by decide +kernel⟩
theorem ok_law_drawC (T : Txt P K mg) {k : Nat} : FnOk P w K mg base CX0 (k + 1) T.f_law_draw T.d_law_draw ["m", "below"] spDrawC := by
  refine T.F_law_draw.ok sc_law_draw (fun vs H Q E h => ?_) (fun cdv A outer s H vs Q E hr h => ?_)
  · obtain ⟨m, n, below, rfl, _⟩ := h
    rfl
  obtain ⟨m, n, below, rfl, ⟨l, sd, p, c, cs, a1, a2, a3, a4, a5, a6, a7, a8, a9⟩, hn, hb, hb2, q⟩ := h
  refine ⟨_, (pss_cons (ps_if (pt_cmpR op_gt (pe_dget (hu_of hr) (pv 0) pe_str (fun _ _ => rfl)) pe_int (by rfl)) (pss_cons (ps_set (i := 2) sc_law_draw.nd rfl (Or.inl rfl) (pe_op op_mod (pe_callTy call_int1 (by rfl) T.z_int (by decide +kernel) (pa_cons (pe_dget (hu_of hr) (pv 0) pe_str (fun _ _ => rfl)) pa_nil)) (pv 1)))
    (pss_cons (ps_dput (hu_of hr) (pv 0) pe_str (pe_op op_fdivW (pe_dget (hu_of hr) (pv 0) pe_str (fun _ _ => rfl)) (pv 1)) rfl)
    (pss_one (ps_ret (pv 2))))) pss_nil)
    (pss_cons (ps_set (i := 3) sc_law_draw.nd rfl (Or.inl rfl) (pe_dget (hu_of hr) (pv 0) pe_str (fun _ _ => rfl)))
    (pss_cons (ps_dput (hu_of hr) (pv 0) pe_str (pe_op op_add (pv 3) pe_int) rfl)
    (pss_cons (ps_par (i := 4) (j := 5) (by rfl) sc_law_draw.nd rfl rfl (by decide) rfl rfl (pa_cons (pe_dget (hu_of hr) (pv 0) pe_str (fun _ _ => rfl)) (pa_cons (pe_op op_add (pe_dget (hu_of hr) (pv 0) pe_str (fun _ _ => rfl)) (pe_op op_mul (pe_op op_mul pe_int (pv 3)) (pv 3))) pa_nil)) (by rfl))
    (pss_cons (ps_set (i := 6) sc_law_draw.nd rfl (Or.inl rfl) (pe_ix (ix_listK K) (pv 4) (pe_op op_mod (pe_callTy call_int1 (by rfl) T.z_int (by decide +kernel) (pa_cons (pv 3) pa_nil)) (pe_callB (len_seqK K) (by rfl) T.z_len (by decide +kernel) (pa_cons (pv 4) pa_nil))) (fun _ _ => rfl)))
    (pss_cons (ps_set (i := 7) sc_law_draw.nd rfl (Or.inl rfl) (pe_op op_mod (pe_callTy call_int1 (by rfl) T.z_int (by decide +kernel) (pa_cons (pe_op op_add (pe_op op_mul (pv 6) (pe_op op_add (pe_op op_mul pe_int (pv 3)) pe_int)) (pv 5)) pa_nil)) pe_int))
    (pss_cons (ps_set (i := 7) sc_law_draw.nd rfl (Or.inl rfl) (pe_op op_mod (pe_callTy call_int1 (by rfl) T.z_int (by decide +kernel) (pa_cons (pe_op op_add (pe_op op_add (pe_op op_mul (pv 7) (pv 7)) (pe_op op_mul pe_int (pv 3))) (pe_dget (hu_of hr) (pv 0) pe_str (fun _ _ => rfl))) pa_nil)) pe_int))
    (pss_one (ps_ret (pe_op op_mod (pe_op op_fdiv (pe_op op_mod (pe_callTy call_int1 (by rfl) T.z_int (by decide +kernel) (pa_cons (pe_op op_add (pe_op op_mul (pv 7) pe_int) (pv 3)) pa_nil)) pe_int) pe_int) (pv 1))))))))))), ?_⟩
  try dsimp only [L2.cxOf, L2.Cx.nox]
  walk_at "rd"
  refine rd_dgetK a1 val_left ?_
  walk_at "rd"
  refine rd_two (fun cl => ?_) (fun cl => ?_)
  · walk_at "rd"
    refine rd_dgetK a1 val_left ?_
    walk_at "rd"
    refine rd_dgetK a1 val_left ?_
    walk_at "rd"
    refine rd_i (wide_div hb (b := 1000) (by omega) (by decide) (by decide)) ?_
    walk_at "rd"
    refine rd_dputK a1 put_left (show 4 < 1000000 by decide) ?_
    walk_at "rd"
    refine q _ _ (Int.emod_nonneg _ (by omega)) (Int.emod_lt_of_pos _ hb) (Kp.at _) ?_ (fun c' h' => by rw [← h'.eq a1]; exact ⟨_, _, _, upd_same⟩)
    exact ⟨_, sd, p, c, cs, upd_same, (by rw [upd_ne (ne_of a2 a1 (fun z => nomatch z))]; exact a2), a3, a4, Int.ediv_nonneg a5 (by omega), a6, a7, a8, by omega⟩
  · walk_at "rd"
    refine rd_dgetK a1 val_spot ?_
    walk_at "rd"
    refine rd_dputK a1 put_spot (show 4 < 1000000 by decide) ?_
    have b1 : (upd H m (.dK (mk l sd c (p + 1)))) m = some (.dK (mk l sd c (p + 1))) := upd_same
    have b2 : (upd H m (.dK (mk l sd c (p + 1)))) c = some (.lst (cs.map V.int)) := by
      rw [upd_ne (ne_of a2 a1 (fun z => nomatch z))]
      exact a2
    walk_at "rd"
    refine rd_dgetK b1 val_cells ?_
    walk_at "rd"
    refine rd_dgetK b1 val_seed ?_
    walk_at "rd"
    refine rd_len (.inl (sqL b2)) ?_
    have h0 : 0 < cs.length := List.length_pos_iff.mpr a3
    have h1 : 0 < (cs.map V.int).length := by rw [List.length_map]; exact h0
    walk_at "rd"
    obtain ⟨z, hz⟩ : ∃ z : Int, atI (cs.map V.int) (p % ((cs.map V.int).length : Int)) = some (.int z) := by
      obtain ⟨v, e, hm⟩ := atI_mod (xs := cs.map V.int) p (fun z => a3 (List.map_eq_nil_iff.mp z))
      obtain ⟨z, _, rfl⟩ := List.mem_map.mp hm
      exact ⟨z, e⟩
    refine rd_ixL (sqL b2) hz ?_
    walk_at "rd"
    refine rd_dgetK b1 val_seed ?_
    walk_at "rd"
    refine q _ _ (Int.emod_nonneg _ (by omega)) (Int.emod_lt_of_pos _ hb) (Kp.at _) ?_ (fun c' h' => by rw [← h'.eq a1]; exact ⟨_, _, _, upd_same⟩)
    exact ⟨l, sd, p + 1, c, cs, b1, b2, a3, a4, a5, a6, a7, by omega, by omega⟩
theorem ok_law_draw (T : Txt P K mg) {k : Nat} : FnOk P w K mg base CX0 (k + 1) T.f_law_draw T.d_law_draw ["m", "below"] spDraw :=
  FnOk_weak (ok_law_drawC T) fun vs H Q E ⟨m, n, below, e, hm, hn, hb, hb2, q⟩ => ⟨m, n, below, e, hm, hn, hb, hb2, fun r H' r0 r1 k h _ => q r H' r0 r1 k h⟩
end

/-! ### the state that a law begins with, and what is drawn from a list -/
def spBegun (K : PySem.W.Frag) : Sp := fun vs H Q _ => ∃ (a : Addr) (ns : List Int) (k : Int), vs = [.ref a, .int k] ∧ SqL K H a (ns.map V.int) ∧ ns.length ≤ 63 ∧ 0 ≤ k ∧ k ≤ 1000 ∧
  ∀ (m : Addr) (H' : Hp), Same H H' → H m = none → MAt H' m 0 → Q (.ref m) H'
section
variable {P : Program} {w : World} {K : PySem.W.Frag} {mg : Str → Option Value} {base : Heap}
theorem sc_law_begun : FnScope ["script", "k", "cells", "great", "begun", "cell"] ["script", "k"] (defScope s_law_begun) := ⟨rfl, rfl, rfl, by decide +kernel, rfl, by decide +kernel, by decide +kernel⟩
theorem ok_law_begun (T : Txt P K mg) {k : Nat} : FnOk P w K mg base CX0 (k + 1) T.f_law_begun T.d_law_begun ["script", "k"] (spBegun K) := by
  refine T.F_law_begun.ok sc_law_begun (fun vs H Q E h => ?_) (fun cdv A outer s H vs Q E hr h => ?_)
  · obtain ⟨a, ns, k, rfl, _⟩ := h
    rfl
  obtain ⟨a, ns, k, rfl, hS, hl, k0, k1, q⟩ := h
  refine ⟨_, (pss_cons (ps_set (i := 2) sc_law_begun.nd rfl (Or.inl rfl) (pe_op op_cat (pe_slice (sl_listK K) (pv 0) (po_some (pv 1)) po_none) (pe_slice (sl_listK K) (pv 0) po_none (po_some (pv 1)))))
    (pss_cons (ps_setLc (i := 3) (own := [("cell", 5)]) (g := (gName 5)) rfl sc_law_begun.nd rfl rfl (sw_true rfl rfl rfl (by decide +kernel)) (pi_list (pv 0)) (blkOk_by (N := ["script", "k", "cells", "great", "begun", "cell"]) (sc := defScope s_law_begun) (by decide +kernel)) (fun _ _ _ _ _ => (pg_name (i := 5) sc_law_begun.nd rfl (Or.inl rfl))) (fun _ _ _ _ _ => (pts_one (pt_cmpR op_ge (pv 5) (pe_op op_pow pe_int pe_int) (by rfl)))) (fun _ _ _ _ _ => (pv 5)))
    (pss_cons (ps_set (i := 4) sc_law_begun.nd rfl (Or.inl rfl) (pe_op op_add pe_int (pe_op op_mul pe_int (pv 1))))
    (pss_cons (ps_for PassesOwn.never rfl (pi_list (pv 2)) (pg_name (i := 5) sc_law_begun.nd rfl (Or.inl rfl)) (pss_one (ps_set (i := 4) sc_law_begun.nd rfl (Or.inl rfl) (pe_op op_mod (pe_callTy call_int1 (by rfl) T.z_int (by decide +kernel) (pa_cons (pe_op op_add (pe_op op_mul (pv 4) pe_int) (pv 5)) pa_nil)) pe_int))))
    (pss_one (ps_ret (pe_disp (pps_cons pe_str (pe_ifExp (pt_cmpR op_lt (pv 1) (pe_callB (len_seqK K) (by rfl) T.z_len (by decide +kernel) (pa_cons (pv 3) pa_nil)) (by rfl)) (pe_ix (ix_listK K) (pv 3) (pv 1) (fun _ _ => rfl)) pe_int) (pps_cons pe_str (pv 4) (pps_cons pe_str (pe_op op_cat (pv 2) (pe_lst (pa_cons (pe_op op_add (pe_op op_mul pe_int (pv 1)) pe_int) pa_nil))) (pps_cons pe_str pe_int pps_nil)))) (by rfl) (by rfl) (fun z => by cases z) (by decide)))))))), ?_⟩
  try dsimp only [L2.cxOf, L2.Cx.nox]
  walk_at "rd"
  refine rd_slL hS fun p1 n1 => ?_
  have s1 := Same.new n1 (.lst (cutV (ns.map V.int) (some k) none))
  walk_at "rd"
  refine rd_slL (s1.seq hS) fun p2 n2 => ?_
  obtain ⟨m1, e1, h1⟩ := cut_ints ns (some k) none
  obtain ⟨m2, e2, h2⟩ := cut_ints ns none (some k)
  have s2 := s1.trans (Same.new n2 (.lst (cutV (ns.map V.int) none (some k))))
  have g1 := (Same.new n2 (.lst (cutV (ns.map V.int) none (some k)))) _ _ (upd_same (H := H) (a := p1) (o := .lst (cutV (ns.map V.int) (some k) none)))
  generalize hH2 : upd (upd H p1 (.lst (cutV (ns.map V.int) (some k) none))) p2 (.lst (cutV (ns.map V.int) none (some k))) = H2 at *
  have g2 : H2 p2 = some (.lst (cutV (ns.map V.int) none (some k))) := by rw [← hH2]; exact upd_same
  rw [e1] at g1
  rw [e2] at g2
  refine rd_cat g1 g2 (by rw [List.length_map, List.length_map]; omega) fun p3 n3 => ?_
  have s3 := s2.trans (Same.new n3 (.lst (m1.map V.int ++ m2.map V.int)))
  have g3 : (upd H2 p3 (.lst (m1.map V.int ++ m2.map V.int))) p3 = _ := upd_same
  generalize hH3 : upd H2 p3 (.lst (m1.map V.int ++ m2.map V.int)) = H3 at *
  rw [← List.map_append] at g3
  have h3 : (m1 ++ m2).length ≤ 126 := by rw [List.length_append]; omega
  generalize m1 ++ m2 = cs at g3 h3
  walk_at "rd"
  refine rd_atL (s3.seq hS) fun p4 n4 => lc_src walk_list (fun i => .int (ns.getD i 0)) ?_ (fun i => decide ((10 : Int) ^ 18 ≤ ns.getD i 0)) (fun i => .int (ns.getD i 0))
    (by rw [List.length_map]; omega) n4 (fun H' z => z.seq (s3.seq hS)) (fun x => rfl) ?_ ?_ ?_
  · rintro i H0 x H' hi ⟨rfl, e⟩
    refine ⟨rfl, ?_⟩
    rw [List.getElem?_map] at e
    cases z : ns[i]? with
    | none => rw [z] at e; cases e
    | some y =>
      rw [z] at e
      rw [List.getD_eq_getElem?_getD, z]
      exact (Option.some.inj e).symm
  · intro i H' R hi z r
    walk_at "rd"
    exact r
  · intro i H' R hi hf z r
    walk_at "rd"
    exact r H' (Same.refl _)
  intro H4 s4 g4
  rw [given_ints] at g4
  have pos : ∀ z ∈ ((List.range (ns.map V.int).length).filter fun i => decide ((10 : Int) ^ 18 ≤ ns.getD i 0)).map (fun i => ns.getD i 0), 0 ≤ z := by
    intro z hz
    obtain ⟨i, hi, rfl⟩ := List.mem_map.mp hz
    have := of_decide_eq_true (List.mem_filter.mp hi).2
    omega
  generalize (((List.range (ns.map V.int).length).filter fun i => decide ((10 : Int) ^ 18 ≤ ns.getD i 0)).map (fun i => ns.getD i 0)) = gs at g4 pos
  have g3' := s4 _ _ g3
  walk_at "rd"
  refine rd_atL (sqL g3') (forL (xs := cs.map V.int) (fun i σ H' => ∃ (b : Int) (x : Option V), σ = [some (.ref a), some (.int k), some (.ref p3), some (.ref p4), some (.int b), x] ∧
    0 ≤ b ∧ b < 2147483647 ∧ H' = H4) ⟨53 + 8 * k, none, rfl, by omega, by omega, rfl⟩ (fun i σ H' _ ⟨_, _, _, _, _, e⟩ => by rw [e]; exact sqL g3') ?_ ?_)
  · rintro i x σ H' hi ⟨b, y, rfl, b0, b1, rfl⟩
    obtain ⟨z, _, rfl⟩ := List.mem_map.mp (List.mem_of_getElem? hi)
    walk_at "rd"
    exact ⟨_, _, rfl, Int.emod_nonneg _ (by decide), Int.emod_lt_of_pos _ (by decide), rfl⟩
  · rintro σ H' ⟨b, y, rfl, b0, b1, rfl⟩
    walk_at "rd"
    intro m nm
    have s5 : Same H' _ := Same.new nm (.dK [])
    have g5 := (Same.new nm (.dK [])) _ _ g4
    have g6 := (Same.new nm (.dK [])) _ _ g3'
    have rest : ∀ l : Int, 0 ≤ l → tPairs [(tC (V.str (Str.ofString "seed")), tVar 4), (tC (V.str (Str.ofString "cells")), tOp rCat (tVar 2)
        (tLst (tCons (tOp (rI0 fun i j => V.int (i + j)) (tOp (rI CMul fun i j => V.int (i * j)) (tC (V.int 41)) (tVar 1)) (tC (V.int 13))) tNil))),
        (tC (V.str (Str.ofString "spot")), tC (V.int 0))] [some (.ref a), some (.int k), some (.ref p3), some (.ref p4), some (.int b), y] (upd H' m (.dK [])) fun ps H2 =>
          H2 m = some (.dK []) ∧ ∃ kvs : List (Key × V), (V.str (Str.ofString "left"), V.int l) :: ps = kvs.map (fun kv => (kV kv.1, kv.2)) ∧ kvs.length ≤ 15 ∧ Q (.ref m) (upd H2 m (.dK (mergeK [] kvs))) := by
      intro l hl
      walk_at "rd"
      refine ⟨by show 1 ≤ sizeLine; decide, fun p5 n5 => ?_⟩
      have s6 := s5.trans (Same.new n5 (.lst [V.int (41 * k + 13)]))
      have g7 := (Same.new n5 (.lst [V.int (41 * k + 13)])) _ _ g6
      have m1 := (Same.new n5 (.lst [V.int (41 * k + 13)])) _ _ (upd_same (H := H') (a := m) (o := .dK []))
      refine rd_cat g7 upd_same (by rw [List.length_map]; show cs.length + 1 ≤ 1000000; omega) fun p6 n6 => ?_
      have s7 := s6.trans (Same.new n6 (.lst (cs.map V.int ++ [V.int (41 * k + 13)])))
      have m2 := (Same.new n6 (.lst (cs.map V.int ++ [V.int (41 * k + 13)]))) _ _ m1
      have np : p6 ≠ m := (ne_of_none m1 n6).symm
      walk_at "rd"
      refine ⟨m2, mk l b p6 0, rfl, (by show 4 ≤ 15; decide), ?_⟩
      rw [merge_mk]
      have old : Same H H' := s3.trans s4
      have nm0 : H m = none := old.free nm
      refine q m _ (Same.put (old.trans s7) nm0 _) nm0 ⟨l, b, 0, p6, cs ++ [41 * k + 13], upd_same, ?_, by simp, ?_, hl, b0, b1, Int.le_refl 0, by omega⟩
      · rw [upd_ne np, upd_same, List.map_append]
        rfl
      · rw [List.length_append]
        show cs.length + 1 ≤ 200
        omega
    walk_at "rd"
    refine rd_len (.inl (sqL g5)) ?_
    walk_at "rd"
    refine rd_two (fun c => ?_) (fun c => ?_)
    · walk_at "rd"
      obtain ⟨v, e, _, hm⟩ := atI_in (xs := gs.map V.int) k0 c
      obtain ⟨z, hz, rfl⟩ := List.mem_map.mp hm
      refine rd_ixL (sqL g5) e ?_
      exact rest z (pos z hz)
    · exact rd_c (rest 0 (Int.le_refl 0))
end

/-! ### one of several, the cells kept -/
def spOfC (K : PySem.W.Frag) : Sp := fun vs H Q _ => ∃ (m a : Addr) (n : Nat) (xs : List V), vs = [.ref m, .ref a] ∧ MAt H m n ∧ n ≤ 999999 ∧ H a = some (.lst xs) ∧ xs ≠ [] ∧ xs.length ≤ 1000 ∧
  ∀ v H', v ∈ xs → Kp m H H' → MAt H' m (n + 1) → (∀ c, Cel H m c → Cel H' m c) → Q v H'
section
variable {P : Program} {w : World} {K : PySem.W.Frag} {mg : Str → Option Value} {base : Heap}
theorem sc_law_of : FnScope ["m", "some"] ["m", "some"] (defScope s_law_of) := ⟨rfl, rfl, rfl, by decide +kernel, rfl, by decide +kernel, by decide +kernel⟩
theorem ok_law_ofC (T : Txt P K mg) {k : Nat} : FnOk P w K mg base CX0 (k + 2) T.f_law_of T.d_law_of ["m", "some"] (spOfC K) := by
  refine T.F_law_of.ok sc_law_of (fun vs H Q E h => ?_) (fun cdv A outer s H vs Q E hr h => ?_)
  · obtain ⟨m, a, n, xs, rfl, _⟩ := h
    rfl
  obtain ⟨m, a, n, xs, rfl, hm, hn, ha, hx, hl, q⟩ := h
  refine ⟨_, (pss_one (ps_ret (pe_ix (ix_listK K) (pv 1) (pe_call (ok_law_drawC T) hr (by rfl) T.g_law_draw T.F_law_draw.kp T.b_law_draw .nil pass0 (pa_cons (pv 0) (pa_cons (pe_callB (len_seqK K) (by rfl) T.z_len (by decide +kernel) (pa_cons (pv 1) pa_nil)) pa_nil))) (fun _ _ => rfl)))), ?_⟩
  try dsimp only [L2.cxOf, L2.Cx.nox]
  walk_at "rd"
  refine rd_len (.inl (sqL ha)) ?_
  walk_at "rd"
  have h0 : 0 < xs.length := List.length_pos_iff.mpr hx
  refine ⟨m, n, _, rfl, hm, by omega, by omega, Int.lt_of_le_of_lt (show (xs.length : Int) ≤ 1000 by omega) (by decide), fun r H' r0 r1 kp hm' hc => ?_⟩
  obtain ⟨v, e, _, hv⟩ := atI_in (xs := xs) r0 r1
  exact rd_ixL (sqL (hm.lst kp ha)) e (q v H' hv kp hm' hc)
end

def spOf (K : PySem.W.Frag) : Sp := fun vs H Q _ => ∃ (m a : Addr) (n : Nat) (xs : List V), vs = [.ref m, .ref a] ∧ MAt H m n ∧ n ≤ 999999 ∧ H a = some (.lst xs) ∧ xs ≠ [] ∧ xs.length ≤ 1000 ∧
  ∀ v H', v ∈ xs → Kp m H H' → MAt H' m (n + 1) → Q v H'
section
variable {P : Program} {w : World} {K : PySem.W.Frag} {mg : Str → Option Value} {base : Heap}
theorem ok_law_of (T : Txt P K mg) {k : Nat} : FnOk P w K mg base CX0 (k + 2) T.f_law_of T.d_law_of ["m", "some"] (spOf K) :=
  FnOk_weak (ok_law_ofC T) fun vs H Q E ⟨m, a, n, xs, e, hm, hn, ha, hx, hl, q⟩ => ⟨m, a, n, xs, e, hm, hn, ha, hx, hl, fun v H' hv k h _ => q v H' hv k h⟩
end

/-! ### a drawn saying -/
def spSaying (n : Nat) : Sp := fun vs H Q _ => ∃ (m a : Addr) (c size : Nat) (names : List Str), vs = [.ref m, .ref a, .int (size : Int)] ∧ MAt H m c ∧ c + 10 * (2 * size + 1) ≤ 900000 ∧
  H a = some (.lst (names.map V.str)) ∧ names ≠ [] ∧ names.length ≤ 100 ∧ size < n ∧
  ∀ (s : Say) (v : V) (H' : Hp), Kp m H H' → MAt H' m (c + 10 * (2 * size + 1)) → SayAt H' s v → (∀ x ∈ s.leaves, x ∈ names) → s.marks = size → s.depth ≤ 2 * size + 1 → s.words ≤ 4 * size + 2 → Q v H'
section
variable {P : Program} {w : World} {K : PySem.W.Frag} {mg : Str → Option Value} {base : Heap}
theorem sc_law_saying : FnScope ["m", "names", "size", "way", "made", "left", "mark", "first"] ["m", "names", "size"] (defScope s_law_saying) := ⟨rfl, rfl, rfl, by decide +kernel, rfl, by decide +kernel, by decide +kernel⟩
theorem ok_law_saying_n (T : Txt P K mg) {k : Nat} : ∀ n : Nat, FnOk P w K mg base CX0 (k + n + 3) T.f_law_saying T.d_law_saying ["m", "names", "size"] (spSaying n)
  | 0 => by
    have no : ∀ vs H Q E, ¬ spSaying 0 vs H Q E := fun vs H Q E h => by
      obtain ⟨m, a, c, size, names, _, _, _, _, _, _, h, _⟩ := h
      exact Nat.not_lt_zero _ h
    exact ⟨fun vs H Q E h => absurd h (no vs H Q E), fun A outer s H args us vs Q E _ _ _ _ h => absurd h (no vs H Q E)⟩
  | n + 1 => by
    have ih := ok_law_saying_n T (k := k) n
    refine T.F_law_saying.ok sc_law_saying (fun vs H Q E h => ?_) (fun cdv A outer s H vs Q E hr h => ?_)
    · obtain ⟨m, a, c, size, names, rfl, _⟩ := h
      rfl
    obtain ⟨m, a, c, size, names, rfl, hm, hc, ha, hx, hl, hs, q⟩ := h
    refine ⟨_, (Evl.pss_cut (ps_if (pt_cmpR op_eq (pv 2) pe_int (by rfl)) (pss_cons (ps_set (i := 3) sc_law_saying.nd rfl (Or.inl rfl) (pe_call (ok_law_draw T) hr (by rfl) T.g_law_draw T.F_law_draw.kp T.b_law_draw .nil pass0 (pa_cons (pv 0) (pa_cons pe_int pa_nil))))
    (pss_one (ps_set (i := 4) sc_law_saying.nd rfl (Or.inl rfl) (pe_ifExp (pt_cmpR op_eq (pv 3) pe_int (by rfl)) (pe_tup (pa_cons pe_str pa_nil)) (pe_ifExp (pt_cmpR op_eq (pv 3) pe_int (by rfl)) (pe_tup (pa_cons pe_str pa_nil)) (pe_tup (pa_cons pe_str (pa_cons (pe_call (ok_law_of T) hr (by rfl) T.g_law_of T.F_law_of.kp T.b_law_of .nil pass0 (pa_cons (pv 0) (pa_cons (pv 1) pa_nil))) pa_nil)))))))) (pss_cons (ps_set (i := 5) sc_law_saying.nd rfl (Or.inl rfl) (pe_call (ok_law_draw T) hr (by rfl) T.g_law_draw T.F_law_draw.kp T.b_law_draw .nil pass0 (pa_cons (pv 0) (pa_cons (pv 2) pa_nil))))
    (pss_cons (ps_set (i := 6) sc_law_saying.nd rfl (Or.inl rfl) (pe_call (ok_law_of T) hr (by rfl) T.g_law_of T.F_law_of.kp T.b_law_of .nil pass0 (pa_cons (pv 0) (pa_cons (pe_lst (pa_cons pe_str (pa_cons pe_str (pa_cons pe_str (pa_cons pe_str (pa_cons pe_str (pa_cons pe_str (pa_cons pe_str (pa_cons pe_str (pa_cons pe_str pa_nil)))))))))) pa_nil))))
    (pss_cons (ps_set (i := 7) sc_law_saying.nd rfl (Or.inl rfl) (pe_call ih hr (by rfl) T.g_law_saying T.F_law_saying.kp T.b_law_saying .nil pass0 (pa_cons (pv 0) (pa_cons (pv 1) (pa_cons (pv 5) pa_nil)))))
    (pss_one (ps_set (i := 4) sc_law_saying.nd rfl (Or.inl rfl) (pe_tup (pa_cons (pv 6) (pa_cons (pv 7) (pa_cons (pe_call ih hr (by rfl) T.g_law_saying T.F_law_saying.kp T.b_law_saying .nil pass0 (pa_cons (pv 0) (pa_cons (pv 1) (pa_cons (pe_op op_sub (pe_op op_sub (pv 2) pe_int) (pv 5)) pa_nil)))) pa_nil))))))))))
    (pss_one (ps_ret (pe_ifExp (pt_cmpR op_eq (pe_call (ok_law_draw T) hr (by rfl) T.g_law_draw T.F_law_draw.kp T.b_law_draw .nil pass0 (pa_cons (pv 0) (pa_cons pe_int pa_nil))) pe_int (by rfl)) (pe_tup (pa_cons pe_str (pa_cons (pv 4) pa_nil))) (pv 4))))), ?_⟩
    try dsimp only [L2.cxOf, L2.Cx.nox]
    refine Evl.q_cut (M := fun σ2 H2 => ∃ (s : Say) (v : V) (y3 y5 y6 y7 : Option V), σ2 = [some (.ref m), some (.ref a), some (.int (size : Int)), y3, some v, y5, y6, y7] ∧
      Kp m H H2 ∧ MAt H2 m (c + 20 * size + 9) ∧ SayAt H2 s v ∧ (∀ x ∈ s.leaves, x ∈ names) ∧ s.marks = size ∧ s.depth ≤ 2 * size ∧ s.words ≤ 4 * size + 1) ?_ ?_
    · walk_at "rd"
      refine rd_ints (fun e => ?_) (fun e => ?_)
      · -- a leaf
        have e0 : size = 0 := by omega
        subst e0
        walk_at "rd"
        refine ⟨m, c, 9, rfl, hm, by omega, by decide, by decide, fun r H1 r0 r1 k1 m1 => ?_⟩
        walk_at "rd"
        refine rd_ints (fun e => ?_) (fun e => ?_)
        · walk_at "rd"
          refine ⟨by show 1 ≤ sizeLine; decide, fun p np => ?_⟩
          exact ⟨.yes, .ref p, _, _, _, _, rfl, k1.trans (Kp.new np _), (m1.same (Same.new np _)).mono (by omega), ⟨p, rfl, upd_same⟩, (fun x hx => nomatch hx), rfl, Nat.zero_le _, by decide⟩
        · walk_at "rd"
          refine rd_ints (fun e => ?_) (fun e => ?_)
          · walk_at "rd"
            refine ⟨by show 1 ≤ sizeLine; decide, fun p np => ?_⟩
            exact ⟨.no, .ref p, _, _, _, _, rfl, k1.trans (Kp.new np _), (m1.same (Same.new np _)).mono (by omega), ⟨p, rfl, upd_same⟩, (fun x hx => nomatch hx), rfl, Nat.zero_le _, by decide⟩
          · walk_at "rd"
            refine ⟨m, a, c + 1, names.map V.str, rfl, m1, by omega, hm.lst k1 ha, (fun z => hx (List.map_eq_nil_iff.mp z)), by rw [List.length_map]; omega, fun v H2 hv k2 m2 => ?_⟩
            obtain ⟨x, hxn, rfl⟩ := List.mem_map.mp hv
            walk_at "rd"
            refine ⟨by show 2 ≤ sizeLine; decide, fun p np => ?_⟩
            refine ⟨.unk x, .ref p, _, _, _, _, rfl, (k1.trans k2).trans (Kp.new np _), (m2.same (Same.new np _)).mono (by omega), ⟨p, rfl, upd_same⟩, fun y hy => ?_, rfl, Nat.zero_le _, (by show 1 ≤ 1; decide)⟩
            obtain rfl := List.mem_singleton.mp hy
            exact hxn
      · -- a mark
        walk_at "rd"
        refine ⟨m, c, (size : Int), rfl, hm, by omega, by omega, Int.lt_of_lt_of_le (show (size : Int) < 1000000 by omega) (by decide), fun r H1 r0 r1 k1 m1 => ?_⟩
        obtain ⟨left, rfl⟩ : ∃ left : Nat, r = (left : Int) := ⟨r.toNat, by omega⟩
        walk_at "rd"
        refine ⟨by show 9 ≤ sizeLine; decide, fun p np => ?_⟩
        refine ⟨m, p, c + 1, _, rfl, m1.same (Same.new np _), by omega, upd_same, (fun z => nomatch z), by decide, fun mv H2 hv k2 m2 => ?_⟩
        obtain ⟨kd, rfl⟩ := mk6_of hv
        have k02 : Kp m H H2 := (k1.trans (Kp.new np _)).trans k2
        walk_at "rd"
        refine ⟨m, a, c + 1 + 1, left, names, rfl, m2, by omega, hm.lst k02 ha, hx, hl, by omega, fun s1 v1 H3 k3 m3 a1 l1 n1 d1 w1 => ?_⟩
        have k03 := k02.trans k3
        walk_at "rd"
        refine ⟨m, a, c + 1 + 1 + 10 * (2 * left + 1), size - 1 - left, names, ?_, m3, by omega, hm.lst k03 ha, hx, hl, by omega, fun s2 v2 H4 k4 m4 a2 l2 n2 d2 w2 => ?_⟩
        · show [V.ref m, V.ref a, V.int ((size : Int) - 1 - (left : Int))] = _
          rw [show (size : Int) - 1 - (left : Int) = ((size - 1 - left : Nat) : Int) by omega]
        · walk_at "rd"
          refine ⟨by show 3 ≤ sizeLine; decide, fun p4 np4 => ?_⟩
          obtain ⟨kvs, hd⟩ := m3.dict
          have t4 : Tk H3 (upd H4 p4 (.tup [.str kd.str, v1, v2])) := (Tk.kp k4 hd).trans (Tk.of (Same.new np4 _))
          refine ⟨.bin kd s1 s2, .ref p4, _, _, _, _, rfl, (k03.trans k4).trans (Kp.new np4 _), (m4.same (Same.new np4 _)).mono (by omega), ⟨p4, v1, v2, rfl, upd_same, a1.keep t4, a2.keep (Tk.of (Same.new np4 _))⟩, ?_, ?_, ?_, ?_⟩
          · intro x hxl
            rcases List.mem_append.mp hxl with z | z
            · exact l1 x z
            · exact l2 x z
          · show s1.marks + s2.marks + 1 = size
            omega
          · show max s1.depth s2.depth + 1 ≤ 2 * size
            omega
          · show s1.words + s2.words + 1 ≤ 4 * size + 1
            omega
    · rintro σ2 H2 ⟨s0, v, y3, y5, y6, y7, rfl, k1, m1, a1, l1, n1, d1, w1⟩
      walk_at "rd"
      refine ⟨m, c + 20 * size + 9, 5, rfl, m1, by omega, by decide, by decide, fun r H3 r0 r1 k2 m2 => ?_⟩
      obtain ⟨kvs, hd⟩ := m1.dict
      walk_at "rd"
      refine rd_ints (fun e => ?_) (fun e => ?_)
      · walk_at "rd"
        refine ⟨by show 2 ≤ sizeLine; decide, fun p np => ?_⟩
        refine q (.not s0) (.ref p) _ ((k1.trans k2).trans (Kp.new np _)) ((m2.same (Same.new np _)).mono (by omega)) ⟨p, v, rfl, upd_same, a1.keep ((Tk.kp k2 hd).trans (Tk.of (Same.new np _)))⟩ l1 n1 ?_ ?_
        · show s0.depth + 1 ≤ _
          omega
        · show s0.words + 1 ≤ _
          omega
      · walk_at "rd"
        exact q s0 v _ (k1.trans k2) (m2.mono (by omega)) (a1.keep (Tk.kp k2 hd)) l1 n1 (by omega) (by omega)
end

/-! ### the program: parts, words -/
def spParts : Sp := fun vs H Q _ => ∃ (s : Say) (v : V), vs = [v] ∧ SayAt H s v ∧ ∀ (t : Addr) (items : List V) (H' : Hp), Same H H' → H' t = some (.tup items) → SaysAt H' s.kids items → Q (.ref t) H'
section
variable {P : Program} {w : World} {K : PySem.W.Frag} {mg : Str → Option Value} {base : Heap}
theorem sc_parts_of : FnScope ["word"] ["word"] (defScope s_parts_of) := ⟨rfl, rfl, rfl, by decide +kernel, rfl, by decide +kernel, by decide +kernel⟩
theorem ok_parts_of (T : Txt P K mg) {k : Nat} : FnOk P w K mg base CX0 (k + 1) T.f_parts_of T.d_parts_of ["word"] spParts := by
  refine T.F_parts_of.ok sc_parts_of (fun vs H Q E h => ?_) (fun cdv A outer s H vs Q E hr h => ?_)
  · obtain ⟨s, v, rfl, _⟩ := h
    rfl
  obtain ⟨s, v, rfl, hs, q⟩ := h
  refine ⟨_, (pss_one (ps_ret (pe_ifExp (pt_cmpR op_eq (pe_ix (ix_tupK K) (pv 0) pe_int (fun _ _ => rfl)) pe_str (by rfl)) (pe_tup pa_nil) (pe_slice (sl_tupK K) (pv 0) (po_some pe_int) po_none)))), ?_⟩
  try dsimp only [L2.cxOf, L2.Cx.nox]
  obtain ⟨p, items, rfl, hp, hk⟩ := hs.node
  walk_at "rd"
  refine rd_ixT (sqT hp) (atI_nat (j := 0) rfl) ?_
  walk_at "rd"
  refine rd_two (fun c => ?_) (fun c => ?_)
  · rcases hk with ⟨x, rfl, rfl⟩ | ⟨hu, hks⟩
    · walk_at "rd"
      exact ⟨Nat.zero_le _, fun t nt => q t [] _ (Same.new nt _) upd_same .nil⟩
    · exact absurd c (head_unk hu)
  · rcases hk with ⟨x, rfl, rfl⟩ | ⟨hu, hks⟩
    · exact absurd rfl c
    walk_at "rd"
    refine rd_tail (sqT hp) fun t nt => q t items _ (Same.new nt _) upd_same (hks.keep (Tk.of (Same.new nt _)))
end
def spAll : Sp := fun vs H Q _ => ∃ (s : Say) (v : V), vs = [v] ∧ SayAt H s v ∧ s.words ≤ 100000 ∧ ∀ (l : Addr) (fv : List V) (H' : Hp), Same H H' → H' l = some (.lst fv) → SaysAt H' s.all fv → Q (.ref l) H'
section
variable {P : Program} {w : World} {K : PySem.W.Frag} {mg : Str → Option Value} {base : Heap}
theorem sc_all_words : FnScope ["saying", "found", "waiting", "word"] ["saying"] (defScope s_all_words) := ⟨rfl, rfl, rfl, by decide +kernel, rfl, by decide +kernel, by decide +kernel⟩
theorem ok_all_words (T : Txt P K mg) {k : Nat} : FnOk P w K mg base CX0 (k + 2) T.f_all_words T.d_all_words ["saying"] spAll := by
  refine T.F_all_words.ok sc_all_words (fun vs H Q E h => ?_) (fun cdv A outer s H vs Q E hr h => ?_)
  · obtain ⟨s, v, rfl, _⟩ := h
    rfl
  obtain ⟨s, v, rfl, hs, hw, q⟩ := h
  refine ⟨_, (pss_cons (ps_set (i := 1) sc_all_words.nd rfl (Or.inl rfl) (pe_lst pa_nil))
    (pss_cons (ps_set (i := 2) sc_all_words.nd rfl (Or.inl rfl) (pe_lst (pa_cons (pv 0) pa_nil)))
    (pss_cons (ps_while PassesOwn.never (pt_truth (pv 2) (by intro _; rfl)) (pss_cons (ps_set (i := 3) sc_all_words.nd rfl (Or.inl rfl) (pe_bm0 PySem.F.plainAttrs_list PySem.F.slot_list_pop PySem.F.type_list_pop mt_pop (pv 2)))
    (pss_cons (ps_expr (pe_bm PySem.F.plainAttrs_list PySem.F.slot_list_append PySem.F.type_list_append mt_append (pv 1) (pa_cons (pv 3) pa_nil)))
    (pss_one (ps_expr (pe_bm PySem.F.plainAttrs_list PySem.F.slot_list_extend PySem.F.type_list_extend mt_extT (pv 2) (pa_cons (pe_revT (pe_call (ok_parts_of T) hr (by rfl) T.g_parts_of T.F_parts_of.kp T.b_parts_of .nil pass0 (pa_cons (pv 3) pa_nil))) pa_nil)))))))
    (pss_one (ps_ret (pv 1)))))), ?_⟩
  try dsimp only [L2.cxOf, L2.Cx.nox]
  walk_at "rd"
  refine ⟨Nat.zero_le _, fun f nf => ?_⟩
  walk_at "rd"
  refine ⟨by show 1 ≤ sizeLine; decide, fun w nw => ?_⟩
  have s1 : Same H (upd H f (.lst [])) := Same.new nf _
  have s2 : Same H (upd (upd H f (.lst [])) w (.lst [v])) := s1.trans (Same.new nw _)
  have nwf : w ≠ f := fun z => by rw [z, upd_same] at nw; cases nw
  have nw0 : H w = none := s1.free nw
  walk_at "rd"
  refine rd_while (fun m σ' H' => ∃ (dn st : List Say) (dv sv : List V) (y : Option V), σ' = [some v, some (.ref f), some (.ref w), y] ∧ Same H H' ∧ H' f = some (.lst dv) ∧ H' w = some (.lst sv.reverse) ∧
    SaysAt H' dn dv ∧ SaysAt H' st sv ∧ dn ++ allL st = s.all ∧ m = wsum st) s.words ⟨[], [s], [], [v], none, rfl, s2, ?_, upd_same, .nil, .cons (hs.keep (Tk.of s2)) .nil, ?_, ?_⟩ ?_
  · rw [upd_ne nwf.symm, upd_same]
  · show s.all ++ [] = s.all
    exact List.append_nil _
  · show s.words = s.words + 0
    rfl
  rintro m σ' H' ⟨dn, st, dv, sv, y, rfl, sm, hf, hw', a1, a2, e1, rfl⟩
  walk_at "rd"
  refine rd_truL (sqL hw') ?_
  cases a2 with
  | nil =>
    refine iteF ?_
    walk_at "rd"
    refine q f dv H' sm hf ?_
    have e2 : dn = s.all := by rw [← e1]; exact (List.append_nil _).symm
    rw [← e2]
    exact a1
  | @cons t u ts us b1 b2 =>
    have e3 : (!(u :: us).reverse.isEmpty) = true := by
      rw [List.reverse_cons]
      cases us.reverse <;> rfl
    rw [e3]
    refine rd_go ?_
    walk_at "rd"
    refine rd_tyL (sqL hw') (rd_pop hw' ?_)
    have k1 : Tk H' (upd H' w (.lst us.reverse)) := fun p xs h => by rw [upd_ne (ne_of h hw' (fun z => nomatch z))]; exact h
    walk_at "rd"
    have hf1 : (upd H' w (.lst us.reverse)) f = some (.lst dv) := by rw [upd_ne nwf.symm]; exact hf
    have many : dn.length + wsum (t :: ts) = s.words := by
      rw [← allL_len, ← List.length_append, e1, all_len]
    have l1 := a1.length
    have l2 := b2.length
    have l3 := len_wsum ts
    have wt : wsum (t :: ts) = t.words + wsum ts := rfl
    refine rd_tyL (sqL hf1) ?_
    walk_at "rd"
    refine rd_append hf1 (by omega) ?_
    have k2 : Tk (upd H' w (.lst us.reverse)) (upd (upd H' w (.lst us.reverse)) f (.lst (dv ++ [u]))) := fun p xs h => by rw [upd_ne (ne_of h hf1 (fun z => nomatch z))]; exact h
    have sm2 : Same H (upd (upd H' w (.lst us.reverse)) f (.lst (dv ++ [u]))) := Same.put (Same.put sm nw0 _) nf _
    have hw2 : (upd (upd H' w (.lst us.reverse)) f (.lst (dv ++ [u]))) w = some (.lst us.reverse) := by rw [upd_ne nwf, upd_same]
    have hf2 : (upd (upd H' w (.lst us.reverse)) f (.lst (dv ++ [u]))) f = some (.lst (dv ++ [u])) := upd_same
    have b1' := b1.keep (k1.trans k2)
    have a1' := a1.keep (k1.trans k2)
    have b2' := b2.keep (k1.trans k2)
    generalize upd (upd H' w (.lst us.reverse)) f (.lst (dv ++ [u])) = H2 at sm2 hw2 hf2 b1' a1' b2'
    walk_at "rd"
    refine rd_tyL (sqL hw2) ?_
    walk_at "rd"
    refine ⟨t, u, rfl, b1', fun tp items H3 s3 ht hks => ?_⟩
    refine rd_revAt (sqT ht) fun r nr => ?_
    have s4 : Same H2 (upd H3 r (.tup items.reverse)) := s3.trans (Same.new nr _)
    walk_at "rd"
    have lk := hks.length
    have lk2 := kids_le t
    refine rd_extT (s4 _ _ hw2) upd_same (by rw [List.length_reverse, List.length_reverse]; omega) ?_
    have k5 : Tk (upd H3 r (.tup items.reverse)) (upd (upd H3 r (.tup items.reverse)) w (.lst (us.reverse ++ items.reverse))) := fun p xs h => by
      rw [upd_ne (ne_of h (s4 _ _ hw2) (fun z => nomatch z))]
      exact h
    have k6 := (Tk.of s4).trans k5
    refine ⟨wsum (t.kids ++ ts), ?_, dn ++ [t], t.kids ++ ts, dv ++ [u], items ++ us, some u, rfl, Same.put (sm2.trans s4) nw0 _, ?_, ?_, ?_, ?_, ?_, rfl⟩
    · rw [wsum_append, wt, words_kids t]
      omega
    · rw [upd_ne nwf.symm]
      exact s4 _ _ hf2
    · rw [upd_same, List.reverse_append]
    · exact (a1'.keep k6).append (.cons (b1'.keep k6) .nil)
    · exact ((hks.keep (Tk.of (Same.new nr _))).keep k5).append (b2'.keep k6)
    · rw [← e1, allL_append]
      show dn ++ [t] ++ (allL t.kids ++ allL ts) = dn ++ (t.all ++ allL ts)
      rw [all_kids t]
      simp
end

/-! ### the unknowns of several -/
def addW (f : List Str) : Say → List Str
  | .unk x => if x ∈ f then f else f ++ [x]
  | _ => f
theorem fold_addW : ∀ (s : Say) (f : List Str), s.all.foldl addW f = s.namesIn f
  | .unk x, f => rfl
  | .yes, f => rfl
  | .no, f => rfl
  | .not a, f => fold_addW a f
  | .bin k a b, f => by
    show (a.all ++ b.all).foldl addW f = b.namesIn (a.namesIn f)
    rw [List.foldl_append, fold_addW a, fold_addW b]
def dnames (f : List Str) : List (Key × V) := f.map fun x => (.inr x, .bl true)
theorem put_names (f : List Str) (x : Str) : putK (dnames f) (.inr x) (.bl true) = dnames (addW f (.unk x)) := by
  have e : ((dnames f).any fun kv => decide (kv.1 = .inr x)) = decide (x ∈ f) := by
    unfold dnames
    rw [List.any_map]
    induction f with
    | nil => rfl
    | cons y r ih =>
      rw [List.any_cons, ih]
      show (decide ((Sum.inr y : Key) = .inr x) || decide (x ∈ r)) = decide (x ∈ y :: r)
      by_cases c : x = y
      · subst c
        simp
      · have c' : ¬ (Sum.inr y : Key) = .inr x := fun z => c (Sum.inr.inj z).symm
        rw [decide_eq_false c', Bool.false_or]
        simp [c]
  unfold putK
  rw [e]
  show _ = dnames (if x ∈ f then f else f ++ [x])
  by_cases c : x ∈ f
  · rw [decide_eq_true c, if_pos rfl, if_pos c]
    unfold dnames
    rw [List.map_map]
    refine List.map_congr_left fun y _ => ?_
    show (if (Sum.inr y : Key) = .inr x then (Sum.inr y, V.bl true) else (Sum.inr y, V.bl true)) = (Sum.inr y, V.bl true)
    split <;> rfl
  · rw [decide_eq_false c, if_neg c, if_neg (by decide)]
    unfold dnames
    rw [List.map_append]
    rfl
theorem addW_len (s : Say) (f : List Str) : (addW f s).length ≤ f.length + 1 := by
  cases s with
  | unk x =>
    show (if x ∈ f then f else f ++ [x]).length ≤ f.length + 1
    split
    · omega
    · simp
  | _ => exact Nat.le_succ _
theorem fold_addW_len (l : List Say) : ∀ f, (l.foldl addW f).length ≤ f.length + l.length := by
  induction l with
  | nil => intro f; exact Nat.le_refl _
  | cons x r ih =>
    intro f
    have h1 := ih (addW f x)
    have h2 := addW_len x f
    show (r.foldl addW (addW f x)).length ≤ f.length + (r.length + 1)
    omega
theorem fold_addW_more {l : List Say} {i : Nat} {k : Say} (h : l[i]? = some k) (f : List Str) : (l.take (i + 1)).foldl addW f = addW ((l.take i).foldl addW f) k := by
  rw [List.take_add_one, h, List.foldl_append]
  rfl
theorem names_keys (f : List Str) : (dnames f).map (fun kv => kV kv.1) = f.map V.str := by
  unfold dnames
  rw [List.map_map]
  rfl
def spUnknowns (K : PySem.W.Frag) : Sp := fun vs H Q _ => ∃ (a : Addr) (xs : List V) (ss : List Say), vs = [.ref a] ∧ SqT K H a xs ∧ SaysAt H ss xs ∧ wsum ss ≤ 100000 ∧
  ∀ (r : Addr) (H' : Hp), Same H H' → H' r = some (.tup ((foldNames ss []).map V.str)) → Q (.ref r) H'
section
variable {P : Program} {w : World} {K : PySem.W.Frag} {mg : Str → Option Value} {base : Heap}
theorem sc_unknowns_of : FnScope ["sayings", "found", "saying", "word"] ["sayings"] (defScope s_unknowns_of) := ⟨rfl, rfl, rfl, by decide +kernel, rfl, by decide +kernel, by decide +kernel⟩
theorem ok_unknowns_of (T : Txt P K mg) {k : Nat} : FnOk P w K mg base CX0 (k + 3) T.f_unknowns_of T.d_unknowns_of ["sayings"] (spUnknowns K) := by
  refine T.F_unknowns_of.ok sc_unknowns_of (fun vs H Q E h => ?_) (fun cdv A outer s H vs Q E hr h => ?_)
  · obtain ⟨a, xs, ss, rfl, _⟩ := h
    rfl
  obtain ⟨a, xs, ss, rfl, ha, hss, hw, q⟩ := h
  refine ⟨_, (pss_cons (ps_set (i := 1) sc_unknowns_of.nd rfl (Or.inl rfl) pe_dnewK)
    (pss_cons (ps_for PassesOwn.never rfl (pi_tup (pv 0)) (pg_name (i := 2) sc_unknowns_of.nd rfl (Or.inl rfl)) (pss_one (ps_for PassesOwn.never rfl (pi_list (pe_call (ok_all_words T) hr (by rfl) T.g_all_words T.F_all_words.kp T.b_all_words .nil pass0 (pa_cons (pv 2) pa_nil))) (pg_name (i := 3) sc_unknowns_of.nd rfl (Or.inl rfl)) (pss_one (ps_if (pt_cmpR op_eq (pe_ix (ix_tupK K) (pv 3) pe_int (fun _ _ => rfl)) pe_str (by rfl)) (pss_one (ps_dput (hu_of hr) (pv 1) (pe_ix (ix_tupK K) (pv 3) pe_int (fun _ _ => rfl)) pe_bl rfl)) pss_nil)))))
    (pss_one (ps_ret (pe_callTy (tuple_ofK K) (by rfl) T.z_tuple (by decide +kernel) (pa_cons (pe_callTy (call_list_dK rfl) (by rfl) T.z_list (by decide +kernel) (pa_cons (pv 1) pa_nil)) pa_nil)))))), ?_⟩
  try dsimp only [L2.cxOf, L2.Cx.nox]
  walk_at "rd"
  intro d nd
  have s0 : Same H (upd H d (.dK [])) := Same.new nd _
  walk_at "rd"
  refine rd_atT (s0.seqT ha) (forT (xs := xs) (fun i σ H' => ∃ (y1 y2 : Option V), σ = [some (.ref a), some (.ref d), y1, y2] ∧ Same H H' ∧
    H' d = some (.dK (dnames (foldNames (ss.take i) [])))) ⟨none, none, rfl, s0, upd_same⟩ (fun i σ H' _ ⟨_, _, _, z, _⟩ => z.seqT ha) ?_ ?_)
  · rintro i x σ H' hi ⟨y1, y2, rfl, z, hd⟩
    obtain ⟨sy, hsy, hat⟩ := hss.get hi
    have w1 := wsum_take hsy
    have w2 := fold_len (ss.take i) []
    rw [List.length_nil] at w2
    walk_at "rd"
    refine ⟨sy, x, rfl, hat.keep (Tk.of z), by omega, fun l fv H2 s2 hl hfv => ?_⟩
    have many := hfv.length
    rw [all_len] at many
    refine rd_atL (sqL hl) (forL (xs := fv) (fun j σ H3 => ∃ (y2 : Option V), σ = [some (.ref a), some (.ref d), some x, y2] ∧ Same H H3 ∧ Tk H2 H3 ∧ H3 l = some (.lst fv) ∧
      H3 d = some (.dK (dnames ((sy.all.take j).foldl addW (foldNames (ss.take i) []))))) ⟨y2, rfl, z.trans s2, Tk.refl, hl, s2 _ _ hd⟩ (fun i σ H' _ ⟨_, _, _, _, z, _⟩ => sqL z) ?_ ?_)
    · rintro j u σ H3 hj ⟨y2', rfl, z3, t3, hl3, hd3⟩
      obtain ⟨t, ht, hut⟩ := hfv.get hj
      obtain ⟨p, items, rfl, hp, hk⟩ := (hut.keep t3).node
      have jl : j < sy.all.length := (List.getElem?_eq_some_iff.mp ht).1
      have w4 := fold_addW_len (sy.all.take j) (foldNames (ss.take i) [])
      rw [List.length_take, all_len] at w4
      walk_at "rd"
      refine rd_ixT (sqT hp) (atI_nat (j := 0) rfl) ?_
      walk_at "rd"
      refine rd_two (fun c => ?_) (fun c => ?_)
      · rcases hk with ⟨y, rfl, rfl⟩ | ⟨hu, _⟩
        · walk_at "rd"
          refine rd_ixT (sqT hp) (atI_nat (j := 1) rfl) ?_
          refine rd_dputK hd3 (put_names _ y) (by unfold dnames; rw [List.length_map]; omega) ?_
          refine ⟨_, rfl, z3.put nd _, t3.trans (Tk.kp (Kp.at _) hd3), ?_, ?_⟩
          · rw [upd_ne (ne_of hl3 hd3 (fun z => nomatch z))]
            exact hl3
          · rw [fold_addW_more ht]
            exact upd_same
        · exact absurd c (head_unk hu)
      · walk_at "rd"
        refine ⟨_, rfl, z3, t3, hl3, ?_⟩
        rw [fold_addW_more ht]
        rcases hk with ⟨y, rfl, rfl⟩ | ⟨hu, _⟩
        · exact absurd rfl c
        · have e : ∀ f, addW f t = f := by
            intro f
            cases t with
            | unk y => cases hu
            | _ => rfl
          rw [e]
          exact hd3
    · rintro σ H3 ⟨y2', rfl, z3, t3, hl3, hd3⟩
      walk_at "rd"
      refine ⟨_, _, rfl, z3, ?_⟩
      rw [fold_more hsy, ← fold_addW]
      rw [hd3, ← hfv.length, List.take_length]
  · rintro σ H' ⟨y1, y2, rfl, z, hd⟩
    walk_at "rd"
    refine ⟨d, _, rfl, hd, fun l nl => ?_⟩
    walk_at "rd"
    refine ⟨l, _, rfl, .inl ⟨sqL upd_same, fun r nr => ?_⟩⟩
    refine q r _ ((z.trans (Same.new nl _)).trans (Same.new nr _)) ?_
    rw [upd_same, names_keys, ← hss.length, List.take_length]
end

/-! ### what a saying gives, counted in parts of the whole -/
def vMk (W : Int) : Mk6 → Int → Int → Int
  | .plus, a, b => if a + b < W then a + b else W
  | .times, a, b => if a + b - W > 0 then a + b - W else 0
  | .leads, a, b => if W - a + b < W then W - a + b else W
  | .and, a, b => if b < a then b else a
  | .or, a, b => if b > a then b else a
  | .same, a, b => W - (if a - b < 0 then -(a - b) else a - b)
def vSay (f : Str → Int) (W : Int) : Say → Int
  | .unk x => f x
  | .yes => W
  | .no => 0
  | .not a => W - vSay f W a
  | .bin k a b => vMk W k (vSay f W a) (vSay f W b)
theorem vMk_in (k : Mk6) {W a b : Int} (a0 : 0 ≤ a) (a1 : a ≤ W) (b0 : 0 ≤ b) (b1 : b ≤ W) : 0 ≤ vMk W k a b ∧ vMk W k a b ≤ W := by
  cases k <;> simp only [vMk] <;> split <;> omega
theorem vSay_in {f : Str → Int} {W : Int} (w0 : 0 ≤ W) : ∀ s : Say, (∀ x ∈ s.leaves, 0 ≤ f x ∧ f x ≤ W) → 0 ≤ vSay f W s ∧ vSay f W s ≤ W
  | .unk x, h => h x (List.mem_singleton.mpr rfl)
  | .yes, _ => ⟨w0, Int.le_refl _⟩
  | .no, _ => ⟨Int.le_refl _, w0⟩
  | .not a, h => by
    have := vSay_in w0 a h
    show 0 ≤ W - vSay f W a ∧ W - vSay f W a ≤ W
    omega
  | .bin k a b, h => by
    obtain ⟨a0, a1⟩ := vSay_in w0 a fun x m => h x (List.mem_append_left _ m)
    obtain ⟨b0, b1⟩ := vSay_in w0 b fun x m => h x (List.mem_append_right _ m)
    exact vMk_in k a0 a1 b0 b1
theorem ite_mul {t x y u v : Int} (ht : 0 < t) : (if t * x < t * y then t * u else t * v) = t * (if x < y then u else v) := by
  by_cases c : x < y
  · rw [if_pos c, if_pos (Int.mul_lt_mul_of_pos_left c ht)]
  · rw [if_neg c, if_neg fun z => c (Int.lt_of_mul_lt_mul_left z (Int.le_of_lt ht))]
theorem vMk_mul {t : Int} (ht : 0 < t) (k : Mk6) (W a b : Int) : vMk (t * W) k (t * a) (t * b) = t * vMk W k a b := by
  cases k <;> simp only [vMk]
  · rw [← Int.mul_add, ite_mul ht]
  · rw [← Int.mul_add, ← Int.mul_sub]
    have := ite_mul (t := t) (x := 0) (y := a + b - W) (u := a + b - W) (v := 0) ht
    rw [Int.mul_zero] at this
    exact this
  · rw [← Int.mul_sub, ← Int.mul_add, ite_mul ht]
  · rw [ite_mul ht]
  · show (if t * a < t * b then t * b else t * a) = t * (if a < b then b else a)
    rw [ite_mul ht]
  · have := ite_mul (t := t) (x := a - b) (y := 0) (u := -(a - b)) (v := a - b) ht
    rw [Int.mul_zero] at this
    rw [← Int.mul_sub, ← Int.mul_neg, this, ← Int.mul_sub]
theorem vSay_mul {t : Int} (ht : 0 < t) (f : Str → Int) (W : Int) : ∀ s : Say, vSay (fun x => t * f x) (t * W) s = t * vSay f W s
  | .unk x => rfl
  | .yes => rfl
  | .no => (Int.mul_zero t).symm
  | .not a => by
    show t * W - vSay (fun x => t * f x) (t * W) a = t * (W - vSay f W a)
    rw [vSay_mul ht f W a, Int.mul_sub]
  | .bin k a b => by
    show vMk (t * W) k _ _ = t * vMk W k _ _
    rw [vSay_mul ht f W a, vSay_mul ht f W b, vMk_mul ht]
theorem vSay_congr {f g : Str → Int} (W : Int) : ∀ s : Say, (∀ x ∈ s.leaves, f x = g x) → vSay f W s = vSay g W s
  | .unk x, h => h x (List.mem_singleton.mpr rfl)
  | .yes, _ => rfl
  | .no, _ => rfl
  | .not a, h => by
    show W - _ = W - _
    rw [vSay_congr W a h]
  | .bin k a b, h => by
    show vMk W k _ _ = vMk W k _ _
    rw [vSay_congr W a fun x m => h x (List.mem_append_left _ m), vSay_congr W b fun x m => h x (List.mem_append_right _ m)]
def spGiven : Sp := fun vs H Q _ => ∃ (k : Mk6) (a b W : Int), vs = [.str k.str, .int a, .int b, .int W] ∧ Q (.int (vMk W k a b)) H
def spNum (n : Nat) : Sp := fun vs H Q _ => ∃ (s : Say) (v : V) (d : Addr) (kvs : List (Key × V)) (f : Str → Int) (W : Int), vs = [v, .ref d, .int W] ∧ SayAt H s v ∧ s.depth < n ∧ H d = some (.dK kvs) ∧
  (∀ x ∈ s.leaves, valV kvs (.inr x) = some (.int (f x))) ∧ ∀ H', Same H H' → Q (.int (vSay f W s)) H'
section
variable {P : Program} {w : World} {K : PySem.W.Frag} {mg : Str → Option Value} {base : Heap}
theorem sc_number_given : FnScope ["mark", "first", "second", "whole"] ["mark", "first", "second", "whole"] (defScope s_number_given) := ⟨rfl, rfl, rfl, by decide +kernel, rfl, by decide +kernel, by decide +kernel⟩
theorem ok_number_given (T : Txt P K mg) {k : Nat} : FnOk P w K mg base CX0 (k + 1) T.f_number_given T.d_number_given ["mark", "first", "second", "whole"] spGiven := by
  refine T.F_number_given.ok sc_number_given (fun vs H Q E h => ?_) (fun cdv A outer s H vs Q E hr h => ?_)
  · obtain ⟨k, a, b, W, rfl, _⟩ := h
    rfl
  obtain ⟨kd, a, b, W, rfl, q⟩ := h
  refine ⟨_, (pss_cons (ps_if (pt_cmpR op_eq (pv 0) pe_str (by rfl)) (pss_one (ps_ret (pe_callB (call_min2 rfl) (by rfl) T.z_min (by decide +kernel) (pa_cons (pv 3) (pa_cons (pe_op op_add (pv 1) (pv 2)) pa_nil))))) pss_nil)
    (pss_cons (ps_if (pt_cmpR op_eq (pv 0) pe_str (by rfl)) (pss_one (ps_ret (pe_callB (call_max2 rfl) (by rfl) T.z_max (by decide +kernel) (pa_cons pe_int (pa_cons (pe_op op_sub (pe_op op_add (pv 1) (pv 2)) (pv 3)) pa_nil))))) pss_nil)
    (pss_cons (ps_if (pt_cmpR op_eq (pv 0) pe_str (by rfl)) (pss_one (ps_ret (pe_callB (call_min2 rfl) (by rfl) T.z_min (by decide +kernel) (pa_cons (pv 3) (pa_cons (pe_op op_add (pe_op op_sub (pv 3) (pv 1)) (pv 2)) pa_nil))))) pss_nil)
    (pss_cons (ps_if (pt_cmpR op_eq (pv 0) pe_str (by rfl)) (pss_one (ps_ret (pe_callB (call_min2 rfl) (by rfl) T.z_min (by decide +kernel) (pa_cons (pv 1) (pa_cons (pv 2) pa_nil))))) pss_nil)
    (pss_cons (ps_if (pt_cmpR op_eq (pv 0) pe_str (by rfl)) (pss_one (ps_ret (pe_callB (call_max2 rfl) (by rfl) T.z_max (by decide +kernel) (pa_cons (pv 1) (pa_cons (pv 2) pa_nil))))) pss_nil)
    (pss_one (ps_ret (pe_op op_sub (pv 3) (pe_callB call_abs (by rfl) T.z_abs (by decide +kernel) (pa_cons (pe_op op_sub (pv 1) (pv 2)) pa_nil)))))))))), ?_⟩
  try dsimp only [L2.cxOf, L2.Cx.nox]
  cases kd
  all_goals walk_at "difs"
  all_goals first | exact q | (refine ⟨_, rfl, ?_⟩; walk_at "rd"; exact q)
theorem sc_number_of : FnScope ["saying", "numbers", "whole", "kind", "first"] ["saying", "numbers", "whole"] (defScope s_number_of) := ⟨rfl, rfl, rfl, by decide +kernel, rfl, by decide +kernel, by decide +kernel⟩
theorem ok_number_of (T : Txt P K mg) {k : Nat} : ∀ n : Nat, FnOk P w K mg base CX0 (k + n + 1) T.f_number_of T.d_number_of ["saying", "numbers", "whole"] (spNum n)
  | 0 => by
    have no : ∀ vs H Q E, ¬ spNum 0 vs H Q E := fun vs H Q E h => by
      obtain ⟨s, v, d, kvs, f, W, _, _, h, _⟩ := h
      exact Nat.not_lt_zero _ h
    exact ⟨fun vs H Q E h => absurd h (no vs H Q E), fun A outer s H args us vs Q E _ _ _ _ h => absurd h (no vs H Q E)⟩
  | n + 1 => by
    have ih := ok_number_of T (k := k) n
    refine T.F_number_of.ok sc_number_of (fun vs H Q E h => ?_) (fun cdv A outer s H vs Q E hr h => ?_)
    · obtain ⟨s, v, d, kvs, f, W, rfl, _⟩ := h
      rfl
    obtain ⟨s, v, d, kvs, f, W, rfl, hs, hd, hk, hf, q⟩ := h
    refine ⟨_, (pss_cons (ps_set (i := 3) sc_number_of.nd rfl (Or.inl rfl) (pe_ix (ix_tupK K) (pv 0) pe_int (fun _ _ => rfl)))
    (pss_cons (ps_if (pt_cmpR op_eq (pv 3) pe_str (by rfl)) (pss_one (ps_ret (pe_dget (hu_of hr) (pv 1) (pe_ix (ix_tupK K) (pv 0) pe_int (fun _ _ => rfl)) (fun _ _ => rfl)))) pss_nil)
    (pss_cons (ps_if (pt_cmpR op_eq (pv 3) pe_str (by rfl)) (pss_one (ps_ret (pv 2))) pss_nil)
    (pss_cons (ps_if (pt_cmpR op_eq (pv 3) pe_str (by rfl)) (pss_one (ps_ret pe_int)) pss_nil)
    (pss_cons (ps_set (i := 4) sc_number_of.nd rfl (Or.inl rfl) (pe_call ih hr (by rfl) T.g_number_of T.F_number_of.kp T.b_number_of .nil pass0 (pa_cons (pe_ix (ix_tupK K) (pv 0) pe_int (fun _ _ => rfl)) (pa_cons (pv 1) (pa_cons (pv 2) pa_nil)))))
    (pss_cons (ps_if (pt_cmpR op_eq (pv 3) pe_str (by rfl)) (pss_one (ps_ret (pe_op op_sub (pv 2) (pv 4)))) pss_nil)
    (pss_one (ps_ret (pe_call (ok_number_given T) hr (by rfl) T.g_number_given T.F_number_given.kp T.b_number_given .nil pass0 (pa_cons (pv 3) (pa_cons (pv 4) (pa_cons (pe_call ih hr (by rfl) T.g_number_of T.F_number_of.kp T.b_number_of .nil pass0 (pa_cons (pe_ix (ix_tupK K) (pv 0) pe_int (fun _ _ => rfl)) (pa_cons (pv 1) (pa_cons (pv 2) pa_nil)))) (pa_cons (pv 2) pa_nil))))))))))))), ?_⟩
    try dsimp only [L2.cxOf, L2.Cx.nox]
    cases s with
    | unk x =>
      obtain ⟨p, rfl, hp⟩ := hs
      walk_at "rd"
      refine rd_ixT (sqT hp) (atI_nat (j := 0) rfl) ?_
      walk_at "difs"
      refine rd_ixT (sqT hp) (atI_nat (j := 1) rfl) ?_
      refine rd_dgetK hk (hf x (List.mem_singleton.mpr rfl)) ?_
      exact q H (Same.refl _)
    | yes =>
      obtain ⟨p, rfl, hp⟩ := hs
      walk_at "rd"
      refine rd_ixT (sqT hp) (atI_nat (j := 0) rfl) ?_
      walk_at "difs"
      exact q H (Same.refl _)
    | no =>
      obtain ⟨p, rfl, hp⟩ := hs
      walk_at "rd"
      refine rd_ixT (sqT hp) (atI_nat (j := 0) rfl) ?_
      walk_at "difs"
      exact q H (Same.refl _)
    | not a =>
      obtain ⟨p, u, rfl, hp, ha⟩ := hs
      walk_at "rd"
      refine rd_ixT (sqT hp) (atI_nat (j := 0) rfl) ?_
      walk_at "difs"
      refine rd_ixT (sqT hp) (atI_nat (j := 1) rfl) ?_
      walk_at "rd"
      refine ⟨a, u, d, kvs, f, W, rfl, ha, Nat.lt_of_succ_lt_succ hd, hk, hf, fun H1 s1 => ?_⟩
      walk_at "difs"
      exact q H1 s1
    | bin kd a b =>
      obtain ⟨p, u, v2, rfl, hp, ha, hb⟩ := hs
      have da : a.depth < n := by
        have : max a.depth b.depth + 1 < n + 1 := hd
        omega
      have db : b.depth < n := by
        have : max a.depth b.depth + 1 < n + 1 := hd
        omega
      have n1 : ¬ V.str kd.str = V.str "unknown" := by cases kd <;> decide +kernel
      have n2 : ¬ V.str kd.str = V.str "yes" := by cases kd <;> decide +kernel
      have n3 : ¬ V.str kd.str = V.str "no" := by cases kd <;> decide +kernel
      have n4 : ¬ V.str kd.str = V.str "not" := by cases kd <;> decide +kernel
      walk_at "rd"
      refine rd_ixT (sqT hp) (atI_nat (j := 0) rfl) ?_
      walk_at "rd"
      refine rd_false n1 ?_
      walk_at "rd"
      refine rd_false n2 ?_
      walk_at "rd"
      refine rd_false n3 ?_
      walk_at "rd"
      refine rd_ixT (sqT hp) (atI_nat (j := 1) rfl) ?_
      walk_at "rd"
      refine ⟨a, u, d, kvs, f, W, rfl, ha, da, hk, fun x m => hf x (List.mem_append_left _ m), fun H1 s1 => ?_⟩
      walk_at "rd"
      refine rd_false n4 ?_
      walk_at "rd"
      refine rd_ixT (s1.seqT (sqT hp)) (atI_nat (j := 2) rfl) ?_
      walk_at "rd"
      refine ⟨b, v2, d, kvs, f, W, rfl, hb.keep (Tk.of s1), db, s1 _ _ hk, fun x m => hf x (List.mem_append_right _ m), fun H2 s2 => ?_⟩
      walk_at "rd"
      exact ⟨kd, _, _, W, rfl, q H2 (s1.trans s2)⟩
end

/-! ### tables of the numbers of names -/
theorem dc_it {J : It} {n : Nat} {G : Hp → Prop} {Y : Nat → Hp → V → Hp → Prop} (w : Walk J n G Y) {g : TG} {tt : TT} {tk tv : TE} {vs : List Nat} {σ : L2.St} {H1 : Hp} {D : Addr} {Qd : Hp → Prop} (Pv : Nat → Hp → Prop) (h0 : Pv 0 (upd H1 D (.dK []))) (hG : ∀ i H, i ≤ n → Pv i H → G H)
    (hs : ∀ i x H H', i < n → Pv i H → Y i H x H' → g x (wipe σ vs) H' fun σ2 H2 => wipe σ2 vs = wipe σ vs ∧ tt σ2 H2 fun b H3 =>
      if b = true then tk σ2 H3 fun y H4 => tv σ2 H4 fun z H5 => ∃ kvs k, y = kV k ∧ H5 D = some (.dK kvs) ∧ kvs.length < sizeLine ∧ Pv (i + 1) (upd H5 D (.dK (putK kvs k z))) else Pv (i + 1) H3) (hd : ∀ H, Pv n H → Qd H) :
    ∃ W : Nat → Nat → Hp → Prop, (∃ m, W 0 m (upd H1 D (.dK []))) ∧ ∀ i m H, W i m H →
      (J.stop i H ∧ Qd H) ∨ (J.go i H ∧ ∃ Nx : Hp → Prop, (∀ H', Nx H' → ∃ m', m' < m ∧ W (i + 1) m' H') ∧ ∀ x H', J.yld i H x H' → g x (wipe σ vs) H' fun σ2 H2 => wipe σ2 vs = wipe σ vs ∧ tt σ2 H2 fun b H3 =>
        if b = true then tk σ2 H3 fun y H4 => tv σ2 H4 fun z H5 => ∃ kvs k, y = kV k ∧ H5 D = some (.dK kvs) ∧ kvs.length < sizeLine ∧ Nx (upd H5 D (.dK (putK kvs k z))) else Nx H3) := by
  refine ⟨fun i m H => (i ≤ n ∧ Pv i H) ∧ m + i = n, ⟨n, ⟨Nat.zero_le _, h0⟩, Nat.add_zero n⟩, ?_⟩
  rintro i m H ⟨⟨hi, p⟩, hm⟩
  have q := hG i H hi p
  rcases Nat.lt_or_ge i n with hlt | hge
  · exact .inr ⟨w.goes i H hlt q, fun H' => Pv (i + 1) H', fun H' p' => ⟨n - (i + 1), by omega, ⟨hlt, p'⟩, by omega⟩, fun x H' y => hs i x H H' hlt p (w.yields i H x H' hlt q y)⟩
  · obtain rfl : i = n := by omega
    exact .inl ⟨w.stops H q, hd H p⟩
theorem rd_dc {wi : TI} {g : TG} {tt : TT} {tk tv : TE} {vs : List Nat} {σ : L2.St} {H : Hp} {Q : VK} (h : wi σ H fun J H1 => ∀ D, H1 D = none → ∃ W : Nat → Nat → Hp → Prop, (∃ m, W 0 m (upd H1 D (.dK []))) ∧ ∀ i m H, W i m H →
  (J.stop i H ∧ Q (.ref D) H) ∨ (J.go i H ∧ ∃ Nx : Hp → Prop, (∀ H', Nx H' → ∃ m', m' < m ∧ W (i + 1) m' H') ∧ ∀ x H', J.yld i H x H' → g x (wipe σ vs) H' fun σ2 H2 => wipe σ2 vs = wipe σ vs ∧ tt σ2 H2 fun b H3 =>
    if b = true then tk σ2 H3 fun y H4 => tv σ2 H4 fun z H5 => ∃ kvs k, y = kV k ∧ H5 D = some (.dK kvs) ∧ kvs.length < sizeLine ∧ Nx (upd H5 D (.dK (putK kvs k z))) else Nx H3)) : tDc wi g tt tk tv vs σ H Q := h
abbrev Nps := List (Str × (Int × Int))
def dnum (W : Int) (l : Nps) : List (Key × V) := l.map fun q => (.inr q.1, .int (q.2.1 * (W / q.2.2)))
def fz (W : Int) (l : Nps) (x : Str) : Int := match l.lookup x with
  | some p => p.1 * (W / p.2)
  | none => 0
theorem dnum_val (W : Int) : ∀ (l : Nps) (x : Str), valV (dnum W l) (.inr x) = (l.lookup x).map fun p => V.int (p.1 * (W / p.2))
  | [], x => rfl
  | (y, p) :: r, x => by
    by_cases c : y = x
    · subst c
      rw [show dnum W ((y, p) :: r) = ((Sum.inr y : Key), V.int (p.1 * (W / p.2))) :: dnum W r from rfl, valV_pos rfl]
      simp [List.lookup]
    · have c2 : (x == y) = false := by
        rw [beq_eq_false_iff_ne]
        exact fun z => c z.symm
      rw [show dnum W ((y, p) :: r) = ((Sum.inr y : Key), V.int (p.1 * (W / p.2))) :: dnum W r from rfl, valV_neg (fun z => c (Sum.inr.inj z)), dnum_val W r x]
      simp [List.lookup, c2]
theorem look_none : ∀ (l : Nps) (x : Str), x ∉ l.map (·.1) → l.lookup x = none
  | [], _, _ => rfl
  | (y, p) :: r, x, h => by
    have c2 : (x == y) = false := by
      rw [beq_eq_false_iff_ne]
      exact fun z => h (by rw [z]; exact List.mem_cons_self ..)
    show (match x == y with | true => some p | false => r.lookup x) = none
    rw [c2]
    exact look_none r x fun z => h (List.mem_cons_of_mem _ z)
theorem zip_look : ∀ {ns : List Str} {ps : List (Int × Int)} {i : Nat} {x : Str} {p : Int × Int}, ns.Nodup → ns[i]? = some x → ps[i]? = some p → (ns.zip ps).lookup x = some p
  | [], _, i, _, _, _, h, _ => by simp at h
  | _ :: _, [], i, _, _, _, _, h => by simp at h
  | y :: ns, q :: ps, 0, x, p, nd, h1, h2 => by
    obtain rfl := Option.some.inj h1
    obtain rfl := Option.some.inj h2
    show (match y == y with | true => some q | false => _) = some q
    rw [beq_self_eq_true]
  | y :: ns, q :: ps, i + 1, x, p, nd, h1, h2 => by
    have hx : x ∈ ns := List.mem_of_getElem? (i := i) h1
    obtain ⟨n1, n2⟩ := List.nodup_cons.mp nd
    have c2 : (x == y) = false := by
      rw [beq_eq_false_iff_ne]
      intro z
      subst z
      exact n1 hx
    show (match x == y with | true => some q | false => (ns.zip ps).lookup x) = some p
    rw [c2]
    exact zip_look (i := i) n2 h1 h2
/-- names, each once, with values -/
structure Pts (ns : List Str) (ps : List (Int × Int)) : Prop where
  nd : ns.Nodup
  len : ns.length = ps.length
  l6 : ps.length ≤ 6
  den : DenOk ps
  num : NumOk ps
theorem Pts.look {ns : List Str} {ps : List (Int × Int)} (h : Pts ns ps) {x : Str} (hx : x ∈ ns) : ∃ p ∈ ps, (ns.zip ps).lookup x = some p := by
  obtain ⟨i, hi, e⟩ := List.getElem_of_mem hx
  have hp : i < ps.length := by rw [← h.len]; exact hi
  exact ⟨ps[i], List.getElem_mem hp, zip_look h.nd (by rw [List.getElem?_eq_getElem hi, e]) (List.getElem?_eq_getElem hp)⟩
theorem Pts.val {ns : List Str} {ps : List (Int × Int)} (h : Pts ns ps) (W : Int) {x : Str} (hx : x ∈ ns) : valV (dnum W (ns.zip ps)) (.inr x) = some (.int (fz W (ns.zip ps) x)) := by
  obtain ⟨p, _, e⟩ := h.look hx
  rw [dnum_val, e]
  unfold fz
  rw [e]
  rfl
theorem part_in {u v W : Int} (u0 : 0 ≤ u) (u1 : u ≤ v) (v0 : 0 < v) (w0 : 0 ≤ W) : 0 ≤ u * (W / v) ∧ u * (W / v) ≤ W := by
  have h0 : 0 ≤ W / v := Int.ediv_nonneg w0 (Int.le_of_lt v0)
  refine ⟨Int.mul_nonneg u0 h0, ?_⟩
  have h1 : u * (W / v) ≤ v * (W / v) := Int.mul_le_mul_of_nonneg_right u1 h0
  have h2 : v * (W / v) ≤ W := Int.mul_ediv_self_le (by omega)
  omega
theorem Pts.bound {ns : List Str} {ps : List (Int × Int)} (h : Pts ns ps) {W : Int} (w0 : 0 ≤ W) {x : Str} (hx : x ∈ ns) : 0 ≤ fz W (ns.zip ps) x ∧ fz W (ns.zip ps) x ≤ W := by
  obtain ⟨p, hp, e⟩ := h.look hx
  unfold fz
  rw [e]
  obtain ⟨n0, n1⟩ := h.num p hp
  exact part_in n0 n1 (den_lt h.den hp).1 w0
theorem fz_mul {ns : List Str} {ps : List (Int × Int)} (h : Pts ns ps) {t W : Int} (hd : ∀ p ∈ ps, p.2 ∣ W) {x : Str} (hx : x ∈ ns) : fz (t * W) (ns.zip ps) x = t * fz W (ns.zip ps) x := by
  obtain ⟨p, hp, e⟩ := h.look hx
  unfold fz
  rw [e]
  have v0 := (den_lt h.den hp).1
  show p.1 * (t * W / p.2) = t * (p.1 * (W / p.2))
  rw [Int.mul_ediv_assoc t (hd p hp), ← Int.mul_assoc, Int.mul_comm p.1 t, Int.mul_assoc]
theorem dnum_put (W : Int) (l : Nps) (x : Str) (p : Int × Int) (h : x ∉ l.map (·.1)) : putK (dnum W l) (.inr x) (.int (p.1 * (W / p.2))) = dnum W (l ++ [(x, p)]) := by
  rw [putK_new _ (by rw [dnum_val, look_none l x h]; rfl)]
  unfold dnum
  rw [List.map_append]
  rfl
theorem zip_new {ns : List Str} {ps : List (Int × Int)} (nd : ns.Nodup) (hl : ns.length = ps.length) {i : Nat} {x : Str} {p : Int × Int} (h1 : ns[i]? = some x) (h2 : ps[i]? = some p) : (ns.zip ps).take (i + 1) = (ns.zip ps).take i ++ [(x, p)] ∧ x ∉ ((ns.zip ps).take i).map (·.1) := by
  have e : (ns.zip ps)[i]? = some (x, p) := List.getElem?_zip_eq_some.mpr ⟨h1, h2⟩
  refine ⟨by rw [List.take_add_one, e]; rfl, ?_⟩
  rw [List.map_take, List.map_fst_zip (Nat.le_of_eq hl)]
  intro hm
  obtain ⟨j, hj, ej⟩ := List.getElem_of_mem hm
  rw [List.length_take] at hj
  rw [List.getElem_take] at ej
  obtain ⟨hi, ei⟩ := List.getElem?_eq_some_iff.mp h1
  have := (List.getElem_inj nd).mp (ej.trans ei.symm)
  omega
theorem str_at {fs : List Str} {i : Nat} {x : V} (h : (fs.map V.str)[i]? = some x) : ∃ z, x = .str z ∧ fs[i]? = some z := by
  rw [List.getElem?_map] at h
  cases e : fs[i]? with
  | none => rw [e] at h; cases h
  | some n => rw [e] at h; exact ⟨n, (Option.some.inj h).symm, rfl⟩
def spNumsFor (K : PySem.W.Frag) : Sp := fun vs H Q _ => ∃ (a b : Addr) (ns : List Str) (ws : List V) (ps : List (Int × Int)), vs = [.ref a, .ref b] ∧ SqT K H a (ns.map V.str) ∧ SqT K H b ws ∧ PrsAt K H ps ws ∧ Pts ns ps ∧
  ∀ (t d : Addr) (H' : Hp), Same H H' → H' t = some (.tup [.int (cden ps : Int), .ref d]) → H' d = some (.dK (dnum (cden ps) (ns.zip ps))) → Q (.ref t) H'
section
variable {P : Program} {w : World} {K : PySem.W.Frag} {mg : Str → Option Value} {base : Heap}
theorem sc_numbers_for : FnScope ["names", "point", "whole", "name", "above", "below"] ["names", "point"] (defScope s_numbers_for) := ⟨rfl, rfl, rfl, by decide +kernel, rfl, by decide +kernel, by decide +kernel⟩
theorem ok_numbers_for (T : Txt P K mg) {k : Nat} : FnOk P w K mg base CX0 (k + 2) T.f_numbers_for T.d_numbers_for ["names", "point"] (spNumsFor K) := by
  refine T.F_numbers_for.ok sc_numbers_for (fun vs H Q E h => ?_) (fun cdv A outer s H vs Q E hr h => ?_)
  · obtain ⟨a, b, ns, ws, ps, rfl, _⟩ := h
    rfl
  obtain ⟨a, b, ns, ws, ps, rfl, ha, hb, hp, pt, q⟩ := h
  refine ⟨_, (pss_cons (ps_set (i := 2) sc_numbers_for.nd rfl (Or.inr rfl) (pe_call (ok_denominator_of T) hr (by rfl) T.g_denominator_of T.F_denominator_of.kp T.b_denominator_of .nil pass0 (pa_cons (pv 1) pa_nil)))
    (pss_one (ps_ret (pe_tup (pa_cons (pv 2) (pa_cons (pe_dc (own := [("name", 3), ("above", 4), ("below", 5)]) (g := (gTup K 2 (gCons (gName 3) (gCons (gTup K 2 (gCons (gName 4) (gCons (gName 5) gNil))) gNil)))) rfl sc_numbers_for.nd (RZ.pi_zipA (by rfl) T.z_zip (pa_cons (pv 0) (pa_cons (pv 1) pa_nil))) (blkOk_by (N := ["names", "point", "whole", "name", "above", "below"]) (sc := defScope s_numbers_for) (by decide +kernel)) (fun _ _ _ _ _ => (pg_tup rfl (pgs_cons (pg_name (i := 3) sc_numbers_for.nd rfl (Or.inl rfl)) (pgs_cons (pg_tup rfl (pgs_cons (pg_name (i := 4) sc_numbers_for.nd rfl (Or.inl rfl)) (pgs_cons (pg_name (i := 5) sc_numbers_for.nd rfl (Or.inl rfl)) pgs_nil))) pgs_nil)))) (fun _ _ _ _ _ => pts_nil) (fun _ _ _ _ _ => (pv 3)) (fun _ _ _ _ _ => (pe_op op_mulB (pv 4) (pe_op op_fdivW (pv 2) (pv 5))))) pa_nil)))))), ?_⟩
  try dsimp only [L2.cxOf, L2.Cx.nox]
  have cW := cden_lt pt.den (i := ps.length) (Nat.le_refl _) pt.l6
  have c0 := (cden_small pt.den ps.length (Nat.le_refl _)).1
  rw [List.take_length] at cW c0
  walk_at "rd"
  refine ⟨b, ws, ps, rfl, hb, hp, pt.den, pt.l6, fun H1 s1 => ?_⟩
  have ha1 := s1.seqT ha
  have hb1 := s1.seqT hb
  have hp1 := hp.keep (same_sqT s1)
  generalize cden ps = W at cW c0 q
  walk_at "rd"
  refine rd_dc ?_
  walk_at "rd"
  refine rd_atZ ha1 hb1 fun D nD => dc_it (walk_zipT (n := ps.length) (xs := ns.map V.str) (ys := ws) (by rw [List.length_map, pt.len, ← hp1.length, Nat.min_self])) (fun i H' => Same H1 H' ∧ H' D = some (.dK (dnum W ((ns.zip ps).take i)))) ⟨Same.new nD _, upd_same⟩ (fun i H' _ z => ⟨z.1.seqT ha1, z.1.seqT hb1⟩) ?_ ?_
  · rintro i z H H' hi ⟨s2, e2⟩ ⟨X, x, y, rfl, nX, rfl, ex, ey⟩
    obtain ⟨n, rfl, hn⟩ := str_at ex
    have s3 := s2.trans (Same.new nX (.tup [V.str n, y]))
    obtain ⟨u, v, p, hpi, rfl, hpp⟩ := (hp1.keep (same_sqT s3)).get ey
    have e3 := (Same.new nX (.tup [V.str n, V.ref p])) _ _ e2
    have hm := List.mem_of_getElem? hpi
    obtain ⟨v0, v1⟩ := den_lt pt.den hm
    obtain ⟨n0, n1⟩ := pt.num _ hm
    have n0 : 0 ≤ u := n0
    have n1 : u ≤ v := n1
    have v0 : 0 < v := v0
    have v1 : v.natAbs ≤ 1000003 := v1
    obtain ⟨zt, zn⟩ := zip_new pt.nd pt.len hn hpi
    refine rd_gtup (sqT upd_same) rfl ?_
    walk_at "rd"
    refine rd_gtup hpp rfl ?_
    walk_at "rd"
    refine ⟨rfl, rd_yes (iteT ?_)⟩
    walk_at "rd"
    refine rd_i (div40 v0 (Nat.lt_of_le_of_lt v1 (by decide))) ?_
    walk_at "rd"
    have hdv : ((W : Int) / v).natAbs ≤ W := by
      have a1 := Int.ediv_le_self v (show (0 : Int) ≤ W by omega)
      have a2 : 0 ≤ (W : Int) / v := Int.ediv_nonneg (by omega) (Int.le_of_lt v0)
      omega
    refine rd_i (mulB_ok (Nat.lt_of_le_of_lt (show u.natAbs ≤ 1000003 by omega) (by decide)) (Nat.lt_of_le_of_lt hdv (Nat.lt_trans cW (by decide)))) ?_
    refine ⟨_, .inr n, rfl, e3, ?_, s3.put nD _, ?_⟩
    · unfold dnum
      rw [List.length_map, List.length_take, sizeLine_eq]
      have := pt.l6
      omega
    · rw [upd_same, dnum_put W _ n (u, v) zn, zt]
  · rintro H' ⟨s2, e2⟩
    rw [List.take_of_length_le (by rw [List.length_zip, pt.len, Nat.min_self]; exact Nat.le_refl _)] at e2
    walk_at "rd"
    refine ⟨by show 2 ≤ sizeLine; decide, fun t nt => ?_⟩
    have s3 := Same.new nt (.tup [V.int (W : Int), V.ref D])
    exact q t D _ ((s1.trans s2).trans s3) upd_same (s3 _ _ e2)
end

/-! ### fractions, names, the value at a point -/
def spFrac (K : PySem.W.Frag) (C : Addr) : Sp := fun vs H Q E => ∃ a b x y : Int, vs = [.int a, .int b] ∧ b ≠ 0 ∧ b.natAbs < 10 ^ 40 ∧ lowN a b = [x, y] ∧
  ((0 ≤ x ∧ x ≤ y) → ∀ (p : Addr) (H' : Hp), Same H H' → H' p = some (.tup [.int x, .int y]) → Q (.ref p) H') ∧
  (¬ (0 ≤ x ∧ x ≤ y) → ∀ (t d : Addr) (H' : Hp), Same H H' → H' t = some (.tup [.int a, .int b]) → H' d = some (.xd [("value", .ref t)]) → E (.ref C) (some d) H')
theorem lowN_two (a b : Int) : ∃ x y, lowN a b = [x, y] := by
  unfold lowN
  split
  · exact ⟨_, _, rfl⟩
  · exact ⟨_, _, rfl⟩
theorem lowT_le {a b : Int} (h0 : 0 ≤ a) (h1 : a ≤ b) (hb : 0 < b) : lowN a b = [a / (Int.gcd a b : Int), b / (Int.gcd a b : Int)] ∧ 0 ≤ a / (Int.gcd a b : Int) ∧ a / (Int.gcd a b : Int) ≤ b / (Int.gcd a b : Int) := by
  have g0 := gcd_pos (a := a) hb
  unfold lowN
  rw [if_neg (by omega)]
  exact ⟨rfl, Int.ediv_nonneg h0 (by omega), Int.ediv_le_ediv (by omega) h1⟩
def spCheck (K : PySem.W.Frag) (C : Addr) : Sp := fun vs H Q E => ∃ (a b : Addr) (fs ns : List Str), vs = [.ref a, .ref b] ∧ SqT K H a (fs.map V.str) ∧ SqT K H b (ns.map V.str) ∧
  ((∀ x ∈ fs, x ∈ ns) → ∀ H', Same H H' → Q .non H') ∧ (∀ (i : Nat) (x : Str), fs[i]? = some x → x ∉ ns → (∀ z ∈ fs.take i, z ∈ ns) → ∀ (d : Addr) (H' : Hp), Same H H' → H' d = some (.xd [("name", .str x)]) → E (.ref C) (some d) H')
def spValueAt (K : PySem.W.Frag) (C : Addr) : Sp := fun vs H Q E => ∃ (s : Say) (v : V) (a b : Addr) (ns : List Str) (ws : List V) (ps : List (Int × Int)), vs = [v, .ref a, .ref b] ∧ SayAt H s v ∧ s.depth < 100 ∧ s.words ≤ 10000 ∧ SqT K H a (ns.map V.str) ∧ SqT K H b ws ∧ PrsAt K H ps ws ∧ Pts ns ps ∧
  ((∀ x ∈ s.leaves, x ∈ ns) → ∀ (p : Addr) (H' : Hp), Same H H' → H' p = some (.tup ((lowT (vSay (fz (cden ps) (ns.zip ps)) (cden ps) s) (cden ps)).map V.int)) → Q (.ref p) H') ∧
  (∀ (i : Nat) (x : Str), (s.namesIn [])[i]? = some x → x ∉ ns → (∀ z ∈ (s.namesIn []).take i, z ∈ ns) → ∀ (d : Addr) (H' : Hp), Same H H' → H' d = some (.xd [("name", .str x)]) → E (.ref C) (some d) H')
theorem rd_notIn {K : PySem.W.Frag} {H : Hp} {Q : VK} {a : Addr} {x : V} {xs : List V} (hs : SqL K H a xs ∨ SqT K H a xs) (hx : flatV x = true) (hf : xs.all flatV = true) {b : Bool} (hb : inV x xs = b) (h : Q (.bl (!b)) H) : rIn K true x (.ref a) H Q := by
  refine ⟨a, xs, rfl, hs, hx, hf, ?_⟩
  rw [hb]
  exact h
theorem names_leaves : ∀ (s : Say) (f : List Str) (x : Str), x ∈ s.namesIn f ↔ x ∈ f ∨ x ∈ s.leaves
  | .unk y, f, x => by
    show x ∈ (if y ∈ f then f else f ++ [y]) ↔ x ∈ f ∨ x ∈ [y]
    by_cases c : y ∈ f
    · rw [if_pos c, List.mem_singleton]
      constructor
      · exact .inl
      · rintro (h | rfl)
        · exact h
        · exact c
    · rw [if_neg c, List.mem_append]
  | .yes, f, x => ⟨.inl, fun h => h.elim id fun z => nomatch z⟩
  | .no, f, x => ⟨.inl, fun h => h.elim id fun z => nomatch z⟩
  | .not a, f, x => names_leaves a f x
  | .bin k a b, f, x => by
    show x ∈ b.namesIn (a.namesIn f) ↔ x ∈ f ∨ x ∈ a.leaves ++ b.leaves
    rw [names_leaves b, names_leaves a, List.mem_append, or_assoc]
theorem rd_chain {r r' : R2} {ta tb tc : TE} {σ : L2.St} {H : Hp} {Q : VK} (h : ta σ H fun x H1 => tb σ H1 fun y H2 => r x y H2 fun z H3 => ∃ k, z = .bl k ∧ (if k = true then tc σ H3 fun w' H4 => r' y w' H4 Q else Q (.bl false) H3)) : tChain r r' ta tb tc σ H Q := h
section
variable {P : Program} {w : World} {K : PySem.W.Frag} {mg : Str → Option Value} {base : Heap}
theorem sc_UnknownName_init : SupScope ["self", "name"] ["self", "name"] (defScope s_UnknownName_init) := ⟨rfl, rfl, rfl, by decide +kernel, rfl, by decide +kernel, by decide +kernel, by decide +kernel, rfl, rfl⟩
theorem ok_UnknownName_init (T : Txt P K mg) {k : Nat} : FnOk P w K mg base CX0 (k + 1) T.f_UnknownName_init T.d_UnknownName_init ["self", "name"] (spInitX T.C_UnknownName "name") := by
  refine sup_ok T.F_UnknownName_init sc_UnknownName_init T.o_UnknownName T.S_UnknownName T.z_super (fun vs H Q E h => ?_) rfl rfl rfl rfl (fun cc cda A outer s H vs Q E h => ?_)
  · obtain ⟨a, v, rfl, _⟩ := h
    rfl
  obtain ⟨a, v, rfl, e, q⟩ := h
  refine ⟨a, _, _, _, rfl, e, pa_cons pe_str pa_nil, pss_one (ps_ost (pv 0) (pv 1)), ?_, rfl, rfl, rfl, rfl, rfl⟩
  walk_at "rd"
  refine ⟨by show 1 ≤ 1000; decide, e, ?_⟩
  refine rd_ost ?_
  walk_at "rd"
  exact ⟨a, T.C_UnknownName, rfl, T.o_UnknownName, T.n_UnknownName_name, .inl ⟨e, fun dx nd ne => q dx nd ne⟩⟩
theorem sc_OutOfRange_init : SupScope ["self", "value"] ["self", "value"] (defScope s_OutOfRange_init) := ⟨rfl, rfl, rfl, by decide +kernel, rfl, by decide +kernel, by decide +kernel, by decide +kernel, rfl, rfl⟩
theorem ok_OutOfRange_init (T : Txt P K mg) {k : Nat} : FnOk P w K mg base CX0 (k + 1) T.f_OutOfRange_init T.d_OutOfRange_init ["self", "value"] (spInitX T.C_OutOfRange "value") := by
  refine sup_ok T.F_OutOfRange_init sc_OutOfRange_init T.o_OutOfRange T.S_OutOfRange T.z_super (fun vs H Q E h => ?_) rfl rfl rfl rfl (fun cc cda A outer s H vs Q E h => ?_)
  · obtain ⟨a, v, rfl, _⟩ := h
    rfl
  obtain ⟨a, v, rfl, e, q⟩ := h
  refine ⟨a, _, _, _, rfl, e, pa_cons pe_str pa_nil, pss_one (ps_ost (pv 0) (pv 1)), ?_, rfl, rfl, rfl, rfl, rfl⟩
  walk_at "rd"
  refine ⟨by show 1 ≤ 1000; decide, e, ?_⟩
  refine rd_ost ?_
  walk_at "rd"
  exact ⟨a, T.C_OutOfRange, rfl, T.o_OutOfRange, T.n_OutOfRange_value, .inl ⟨e, fun dx nd ne => q dx nd ne⟩⟩
theorem sc_fraction : FnScope ["above", "below", "value"] ["above", "below"] (defScope s_fraction) := ⟨rfl, rfl, rfl, by decide +kernel, rfl, by decide +kernel, by decide +kernel⟩
theorem ok_fraction (T : Txt P K mg) {k : Nat} : FnOk P w K mg base (L2.CX P w) (k + 3) T.f_fraction T.d_fraction ["above", "below"] (spFrac K T.C_OutOfRange) := by
  refine T.F_fraction.okX sc_fraction (fun vs H Q E h => ?_) (fun cdv A outer s H vs Q E hr h => ?_)
  · obtain ⟨a, b, x, y, rfl, _⟩ := h
    rfl
  obtain ⟨a, b, x, y, rfl, h0, hb, e, q1, q2⟩ := h
  refine ⟨_, (pss_cons (ps_set (i := 2) sc_fraction.nd rfl (Or.inl rfl) (pe_call (ok_lowest_terms T) hr (by rfl) T.g_lowest_terms T.F_lowest_terms.kp T.b_lowest_terms .nil pass0 (pa_cons (pv 0) (pa_cons (pv 1) pa_nil))))
    (pss_cons (ps_if (pt_not (pt_chain op_le op_le pe_int (pe_ix (ix_tupK K) (pv 2) pe_int (fun _ _ => rfl)) (pe_ix (ix_tupK K) (pv 2) pe_int (fun _ _ => rfl)))) (pss_one (ps_raise rfl (takes_of rfl rfl rfl rfl) (pmk_oex T.o_OutOfRange T.i_OutOfRange T.t_OutOfRange (ok_OutOfRange_init T) hr T.b_OutOfRange_init .nil pass0 (by rfl) T.m_OutOfRange (pa_cons (pe_tup (pa_cons (pv 0) (pa_cons (pv 1) pa_nil))) pa_nil)))) pss_nil)
    (pss_one (ps_ret (pv 2))))), ?_⟩
  try dsimp only [L2.cxOf, L2.Cx.nox]
  walk_at "rd"
  refine ⟨a, b, rfl, h0, hb, fun p H1 s1 hp => ?_⟩
  rw [e] at hp
  have hp' : SqT K H1 p [.int x, .int y] := sqT hp
  have bad : ¬ (0 ≤ x ∧ x ≤ y) → tMkO T.C_OutOfRange (spInitX T.C_OutOfRange (Str.ofString "value")) [] (tCons (tTup (tCons (tVar 0) (tCons (tVar 1) tNil))) tNil) [some (V.int a), some (V.int b), some (V.ref p)] H1 fun cls d H' => E cls d H' := by
    intro c
    refine rd_mko ?_
    walk_at "rd"
    refine ⟨by show 2 ≤ sizeLine; decide, fun t nt => ?_⟩
    walk_at "rd"
    have s2 := s1.trans (Same.new nt (.tup [V.int a, V.int b]))
    exact rd_raise fun d H3 s3 _ h3 => q2 c t d H3 (s2.trans s3) (s3 _ _ upd_same) h3
  walk_at "rd"
  refine rd_chain ?_
  walk_at "rd"
  refine rd_ixT hp' (atI_nat (j := 0) rfl) ?_
  walk_at "rd"
  refine rd_two (fun c0 => ?_) (fun c0 => ?_)
  · walk_at "rd"
    refine rd_ixT hp' (atI_nat (j := 1) rfl) ?_
    walk_at "rd"
    by_cases c1 : x ≤ y
    · rw [decide_eq_true c1]
      refine iteF ?_
      walk_at "rd"
      exact q1 ⟨c0, c1⟩ p H1 s1 hp
    · rw [decide_eq_false c1]
      exact iteT (bad fun z => c1 z.2)
  · refine ⟨false, rfl, ?_⟩
    exact iteT (bad fun z => c0 z.1)
theorem sc_check_names : FnScope ["needed", "names", "name"] ["needed", "names"] (defScope s_check_names) := ⟨rfl, rfl, rfl, by decide +kernel, rfl, by decide +kernel, by decide +kernel⟩
theorem ok_check_names (T : Txt P K mg) {k : Nat} : FnOk P w K mg base (L2.CX P w) (k + 3) T.f_check_names T.d_check_names ["needed", "names"] (spCheck K T.C_UnknownName) := by
  refine T.F_check_names.okX sc_check_names (fun vs H Q E h => ?_) (fun cdv A outer s H vs Q E hr h => ?_)
  · obtain ⟨a, b, fs, ns, rfl, _⟩ := h
    rfl
  obtain ⟨a, b, fs, ns, rfl, ha, hb, q1, q2⟩ := h
  refine ⟨_, (pss_one (ps_for (passes_of rfl) rfl (pi_tup (pv 0)) (pg_name (i := 2) sc_check_names.nd rfl (Or.inl rfl)) (pss_one (ps_if (pt_cmpR (notIn_seqK K) (pv 2) (pv 1) (by rfl)) (pss_one (ps_raise rfl (takes_of rfl rfl rfl rfl) (pmk_oex T.o_UnknownName T.i_UnknownName T.t_UnknownName (ok_UnknownName_init T) hr T.b_UnknownName_init .nil pass0 (by rfl) T.m_UnknownName (pa_cons (pv 2) pa_nil)))) pss_nil)))), ?_⟩
  try dsimp only [L2.cxOf, L2.Cx.nox]
  walk_at "rd"
  refine rd_atT ha (forT (xs := fs.map V.str) (fun i σ H' => ∃ y : Option V, σ = [some (.ref a), some (.ref b), y] ∧ H' = H ∧ ∀ z ∈ fs.take i, z ∈ ns) ⟨none, rfl, rfl, fun z h => nomatch h⟩ (fun i σ H' _ ⟨_, _, z, _⟩ => by rw [z]; exact ha) ?_ ?_)
  · rintro i x σ H' hi ⟨y, rfl, rfl, hin⟩
    obtain ⟨n, rfl, hn⟩ := str_at hi
    walk_at "rd"
    refine rd_notIn (.inr hb) rfl (Gd.flat_strs ns) (inV_strs n ns) ?_
    by_cases c : n ∈ ns
    · rw [decide_eq_true c]
      walk_at "rd"
      refine iteF ?_
      walk_at "rd"
      refine ⟨_, rfl, rfl, fun z hz => ?_⟩
      rw [List.take_add_one, hn] at hz
      rcases List.mem_append.mp hz with hz | hz
      · exact hin z hz
      · obtain rfl : z = n := by simpa using hz
        exact c
    · rw [decide_eq_false c]
      walk_at "rd"
      refine iteT (rd_mko ?_)
      walk_at "rd"
      exact rd_raise fun d H2 s2 _ h2 => q2 i n hn c hin d H2 s2 h2
  · rintro σ H' ⟨y, rfl, rfl, hin⟩
    rw [List.length_map, List.take_length] at hin
    walk_at "rd"
    exact q1 hin H' (Same.refl _)
theorem sc_value_at : FnScope ["saying", "names", "point", "whole", "numbers"] ["saying", "names", "point"] (defScope s_value_at) := ⟨rfl, rfl, rfl, by decide +kernel, rfl, by decide +kernel, by decide +kernel⟩
theorem ok_value_at (T : Txt P K mg) {k : Nat} : FnOk P w K mg base (L2.CX P w) (k + 102) T.f_value_at T.d_value_at ["saying", "names", "point"] (spValueAt K T.C_UnknownName) := by
  refine T.F_value_at.okX sc_value_at (fun vs H Q E h => ?_) (fun cdv A outer s H vs Q E hr h => ?_)
  · obtain ⟨s, v, a, b, ns, ws, ps, rfl, _⟩ := h
    rfl
  obtain ⟨s, v, a, b, ns, ws, ps, rfl, hs, hd, hw, ha, hb, hp, pt, q1, q2⟩ := h
  refine ⟨_, (pss_cons (ps_expr (pe_call (ok_check_names T) hr (by rfl) T.g_check_names T.F_check_names.kp T.b_check_names .nil (passes_call (takes_of rfl rfl rfl rfl) fun _ _ _ _ h => h) (pa_cons (pe_call (ok_unknowns_of T) hr (by rfl) T.g_unknowns_of T.F_unknowns_of.kp T.b_unknowns_of .nil pass0 (pa_cons (pe_tup (pa_cons (pv 0) pa_nil)) pa_nil)) (pa_cons (pv 1) pa_nil))))
    (pss_cons (ps_asg (pe_call (ok_numbers_for T) hr (by rfl) T.g_numbers_for T.F_numbers_for.kp T.b_numbers_for .nil pass0 (pa_cons (pv 1) (pa_cons (pv 2) pa_nil))) (pg_tup rfl (pgs_cons (pg_name (i := 3) sc_value_at.nd rfl (Or.inl rfl)) (pgs_cons (pg_name (i := 4) sc_value_at.nd rfl (Or.inl rfl)) pgs_nil))))
    (pss_one (ps_ret (pe_call (ok_fraction T) hr (by rfl) T.g_fraction T.F_fraction.kp T.b_fraction .nil (passes_call (takes_of rfl rfl rfl rfl) fun _ _ _ _ h => h) (pa_cons (pe_call (ok_number_of T 100) hr (by rfl) T.g_number_of T.F_number_of.kp T.b_number_of .nil pass0 (pa_cons (pv 0) (pa_cons (pv 4) (pa_cons (pv 3) pa_nil)))) (pa_cons (pv 3) pa_nil))))))), ?_⟩
  try dsimp only [L2.cxOf, L2.Cx.nox]
  walk_at "rd"
  refine ⟨by show 1 ≤ sizeLine; decide, fun p1 n1 => ?_⟩
  have s1 := Same.new n1 (.tup [v])
  walk_at "rd"
  have fold1 : foldNames [s] [] = s.namesIn [] := rfl
  refine ⟨p1, [v], [s], rfl, sqT upd_same, .cons (hs.keep (Tk.of s1)) .nil, ?_, fun r H2 s2 h2 => ?_⟩
  · show s.words + 0 ≤ 100000
    omega
  rw [fold1] at h2
  have s12 := s1.trans s2
  walk_at "rd"
  refine ⟨r, a, _, ns, rfl, sqT h2, s12.seqT ha, fun hin H3 s3 => ?_, fun i x hi hx hpre d H3 s3 h3 => q2 i x hi hx hpre d H3 (s12.trans s3) h3⟩
  have hin' : ∀ x ∈ s.leaves, x ∈ ns := fun x hx => hin x ((names_leaves s [] x).mpr (.inr hx))
  have s13 := s12.trans s3
  have cW := cden_lt pt.den (i := ps.length) (Nat.le_refl _) pt.l6
  have c0 := (cden_small pt.den ps.length (Nat.le_refl _)).1
  rw [List.take_length] at cW c0
  walk_at "rd"
  refine ⟨a, b, ns, ws, ps, rfl, s13.seqT ha, s13.seqT hb, hp.keep (same_sqT s13), pt, fun t d H4 s4 ht hd4 => ?_⟩
  have s14 := s13.trans s4
  refine rd_gtup (sqT ht) rfl ?_
  walk_at "rd"
  refine ⟨s, v, d, _, fz (cden ps) (ns.zip ps), (cden ps : Int), rfl, hs.keep (Tk.of s14), hd, hd4, fun x hx => pt.val _ (hin' x hx), fun H5 s5 => ?_⟩
  obtain ⟨v0, v1⟩ := vSay_in (f := fz (cden ps) (ns.zip ps)) (W := (cden ps : Int)) (by omega) s fun x hx => pt.bound (by omega) (hin' x hx)
  obtain ⟨e1, e2, e3⟩ := lowT_le v0 v1 (by omega)
  walk_at "rd"
  refine ⟨_, _, _, _, rfl, by omega, ?_, e1, fun _ p H6 s6 h6 => ?_, fun z => absurd ⟨e2, e3⟩ z⟩
  · rw [Int.natAbs_natCast]
    exact Nat.lt_trans cW (by decide)
  · exact q1 hin' p H6 ((s14.trans s5).trans s6) h6
end

def spCount (f : Say → Nat) : Sp := fun vs H Q _ => ∃ (s : Say) (v : V), vs = [v] ∧ SayAt H s v ∧ s.words ≤ 100000 ∧ ∀ H' : Hp, Same H H' → Q (.int (f s : Int)) H'
section
variable {P : Program} {w : World} {K : PySem.W.Frag} {mg : Str → Option Value} {base : Heap}
theorem sc_words_in : FnScope ["saying"] ["saying"] (defScope s_words_in) := ⟨rfl, rfl, rfl, by decide +kernel, rfl, by decide +kernel, by decide +kernel⟩
theorem ok_words_in (T : Txt P K mg) {k : Nat} : FnOk P w K mg base CX0 (k + 3) T.f_words_in T.d_words_in ["saying"] (spCount Say.words) := by
  refine T.F_words_in.ok sc_words_in (fun vs H Q E h => ?_) (fun cdv A outer s H vs Q E hr h => ?_)
  · obtain ⟨s, v, rfl, _⟩ := h
    rfl
  obtain ⟨s, v, rfl, hs, hw, q⟩ := h
  refine ⟨_, (pss_one (ps_ret (pe_callB (len_seqK K) (by rfl) T.z_len (by decide +kernel) (pa_cons (pe_call (ok_all_words T) hr (by rfl) T.g_all_words T.F_all_words.kp T.b_all_words .nil pass0 (pa_cons (pv 0) pa_nil)) pa_nil)))), ?_⟩
  try dsimp only [L2.cxOf, L2.Cx.nox]
  walk_at "rd"
  refine ⟨s, v, rfl, hs, hw, fun l fv H' s1 hl ha => ?_⟩
  walk_at "rd"
  refine rd_len (.inl (sqL hl)) ?_
  walk_at "rd"
  have e : fv.length = s.words := by rw [← ha.length, all_len]
  rw [e]
  exact q H' s1
end

section
variable {P : Program} {w : World} {K : PySem.W.Frag} {mg : Str → Option Value} {base : Heap}
/-- sayings with numbers, in new pairs -/
inductive PairsAt (H : Hp) : List (Say × Nat) → List V → Prop
  | nil : PairsAt H [] []
  | cons {s : Say} {d : Nat} {p : Addr} {v : V} {ss : List (Say × Nat)} {vs : List V} : H p = some (.tup [v, .int (d : Int)]) → SayAt H s v → PairsAt H ss vs → PairsAt H ((s, d) :: ss) (.ref p :: vs)
theorem PairsAt.keep {H H' : Hp} (t : Tk H H') : ∀ {ss : List (Say × Nat)} {vs : List V}, PairsAt H ss vs → PairsAt H' ss vs
  | _, _, .nil => .nil
  | _, _, .cons h a r => .cons (t _ _ h) (a.keep t) (r.keep t)
theorem PairsAt.length {H : Hp} : ∀ {ss : List (Say × Nat)} {vs : List V}, PairsAt H ss vs → ss.length = vs.length
  | _, _, .nil => rfl
  | _, _, .cons _ _ r => congrArg Nat.succ r.length
def psum (l : List (Say × Nat)) : Nat := wsum (l.map (·.1))
def pdeep (l : List (Say × Nat)) (g : Nat) : Nat := l.foldl (fun g p => max g (p.2 + p.1.depth)) g
theorem pdeep_max (l : List (Say × Nat)) : ∀ a b, pdeep l (max a b) = max a (pdeep l b) := by
  induction l with
  | nil => intro a b; rfl
  | cons x r ih =>
    intro a b
    show pdeep r (max (max a b) (x.2 + x.1.depth)) = max a (pdeep r (max b (x.2 + x.1.depth)))
    rw [Nat.max_assoc, ih]
theorem pdeep_append (l r : List (Say × Nat)) (g : Nat) : pdeep (l ++ r) g = pdeep r (pdeep l g) := List.foldl_append
theorem pdeep_kids (l : List Say) (d : Nat) : ∀ g, pdeep (l.map fun k => (k, d + 1)) g = max g (l.foldl (fun g k => max g (d + (k.depth + 1))) 0) := by
  induction l with
  | nil => intro g; exact (Nat.max_zero g).symm
  | cons x r ih =>
    intro g
    show pdeep (r.map fun k => (k, d + 1)) (max g (d + 1 + x.depth)) = max g (r.foldl (fun g k => max g (d + (k.depth + 1))) (max 0 (d + (x.depth + 1))))
    have fm : ∀ (l : List Say) a b, l.foldl (fun g k => max g (d + (k.depth + 1))) (max a b) = max a (l.foldl (fun g k => max g (d + (k.depth + 1))) b) := by
      intro l
      induction l with
      | nil => intro a b; rfl
      | cons y q ih => intro a b; rw [List.foldl_cons, List.foldl_cons, Nat.max_assoc, ih]
    rw [ih, Nat.max_comm 0, fm, Nat.max_assoc, show d + 1 + x.depth = d + (x.depth + 1) by omega]
theorem deep_shift (l : List Say) (d : Nat) (h : l ≠ []) : l.foldl (fun g k => max g (d + (k.depth + 1))) 0 = d + Say.deepL l := by
  have gen : ∀ (l : List Say) (g : Nat), l.foldl (fun g k => max g (d + (k.depth + 1))) (d + g) = d + l.foldl (fun g k => max g (k.depth + 1)) g := by
    intro l
    induction l with
    | nil => intro g; rfl
    | cons y q ih =>
      intro g
      show q.foldl _ (max (d + g) (d + (y.depth + 1))) = d + q.foldl _ (max g (y.depth + 1))
      rw [show max (d + g) (d + (y.depth + 1)) = d + max g (y.depth + 1) by omega, ih]
  cases l with
  | nil => exact absurd rfl h
  | cons x r =>
    show r.foldl _ (max 0 (d + (x.depth + 1))) = d + r.foldl _ (max 0 (x.depth + 1))
    rw [show max 0 (d + (x.depth + 1)) = d + max 0 (x.depth + 1) by omega, gen]
/-- one saying taken from the stack, its kids put there -/
theorem pdeep_step (s : Say) (d g : Nat) : pdeep (s.kids.map fun k => (k, d + 1)) (max g d) = max g (d + s.depth) := by
  rw [pdeep_kids, depth_kids]
  cases h : s.kids with
  | nil => show max (max g d) 0 = max g (d + 0); omega
  | cons x r =>
    rw [deep_shift _ d (List.cons_ne_nil x r)]
    have : d ≤ d + Say.deepL (x :: r) := Nat.le_add_right _ _
    omega
theorem pdeep_perm (l : List (Say × Nat)) : ∀ g, pdeep l.reverse g = pdeep l g := by
  induction l with
  | nil => intro g; rfl
  | cons x r ih =>
    intro g
    rw [List.reverse_cons, pdeep_append, ih]
    show max (pdeep r g) (x.2 + x.1.depth) = pdeep r (max g (x.2 + x.1.depth))
    rw [Nat.max_comm g, pdeep_max, Nat.max_comm]
theorem sc_depth_of : FnScope ["saying", "greatest", "waiting", "word", "depth", "part"] ["saying"] (defScope s_depth_of) := ⟨rfl, rfl, rfl, by decide +kernel, rfl, by decide +kernel, by decide +kernel⟩
theorem ok_depth_of (T : Txt P K mg) {k : Nat} : FnOk P w K mg base CX0 (k + 2) T.f_depth_of T.d_depth_of ["saying"] (spCount Say.depth) := by
  refine T.F_depth_of.ok sc_depth_of (fun vs H Q E h => ?_) (fun cdv A outer s H vs Q E hr h => ?_)
  · obtain ⟨s, v, rfl, _⟩ := h
    rfl
  obtain ⟨s, v, rfl, hs, hw, q⟩ := h
  refine ⟨_, (pss_cons (ps_set (i := 1) sc_depth_of.nd rfl (Or.inl rfl) pe_int)
    (pss_cons (ps_set (i := 2) sc_depth_of.nd rfl (Or.inl rfl) (pe_lst (pa_cons (pe_tup (pa_cons (pv 0) (pa_cons pe_int pa_nil))) pa_nil)))
    (pss_cons (ps_while PassesOwn.never (pt_truth (pv 2) (by intro _; rfl)) (pss_cons (ps_asg (pe_bm0 PySem.F.plainAttrs_list PySem.F.slot_list_pop PySem.F.type_list_pop mt_pop (pv 2)) (pg_tup rfl (pgs_cons (pg_name (i := 3) sc_depth_of.nd rfl (Or.inl rfl)) (pgs_cons (pg_name (i := 4) sc_depth_of.nd rfl (Or.inl rfl)) pgs_nil))))
    (pss_cons (ps_set (i := 1) sc_depth_of.nd rfl (Or.inl rfl) (pe_callB (call_max2 rfl) (by rfl) T.z_max (by decide +kernel) (pa_cons (pv 1) (pa_cons (pv 4) pa_nil))))
    (pss_one (ps_for PassesOwn.never rfl (pi_tup (pe_call (ok_parts_of T) hr (by rfl) T.g_parts_of T.F_parts_of.kp T.b_parts_of .nil pass0 (pa_cons (pv 3) pa_nil))) (pg_name (i := 5) sc_depth_of.nd rfl (Or.inl rfl)) (pss_one (ps_expr (pe_bm PySem.F.plainAttrs_list PySem.F.slot_list_append PySem.F.type_list_append mt_append (pv 2) (pa_cons (pe_tup (pa_cons (pv 5) (pa_cons (pe_op op_add (pv 4) pe_int) pa_nil))) pa_nil)))))))))
    (pss_one (ps_ret (pv 1)))))), ?_⟩
  try dsimp only [L2.cxOf, L2.Cx.nox]
  walk_at "rd"
  refine ⟨by show 2 ≤ sizeLine; decide, fun p0 n0 => ?_⟩
  walk_at "rd"
  refine ⟨by show 1 ≤ sizeLine; decide, fun w nw => ?_⟩
  have s1 : Same H (upd H p0 (.tup [v, .int 0])) := Same.new n0 _
  have s2 : Same H (upd (upd H p0 (.tup [v, .int 0])) w (.lst [.ref p0])) := s1.trans (Same.new nw _)
  have nw0 : H w = none := s1.free nw
  walk_at "rd"
  refine rd_while (fun m σ' H' => ∃ (g : Nat) (st : List (Say × Nat)) (sv : List V) (y1 y2 y3 : Option V), σ' = [some v, some (.int (g : Int)), some (.ref w), y1, y2, y3] ∧ Same H H' ∧
    H' w = some (.lst sv.reverse) ∧ PairsAt H' st sv ∧ pdeep st g = s.depth ∧ psum st ≤ s.words ∧ m = psum st) s.words
    ⟨0, [(s, 0)], [.ref p0], none, none, none, rfl, s2, upd_same, .cons ((Same.new nw _) _ _ upd_same) (hs.keep (Tk.of s2)) .nil, ?_, ?_, ?_⟩ ?_
  · show max 0 (0 + s.depth) = s.depth
    omega
  · show s.words + 0 ≤ s.words
    exact Nat.le_refl _
  · show s.words = s.words + 0
    rfl
  rintro m σ' H' ⟨g, st, sv, y1, y2, y3, rfl, sm, hw', a2, e1, b0, rfl⟩
  walk_at "rd"
  refine rd_truL (sqL hw') ?_
  cases a2 with
  | nil =>
    refine iteF ?_
    walk_at "rd"
    have e2 : g = s.depth := e1
    rw [e2]
    exact q H' sm
  | @cons t d tp u ts us ht b1 b2 =>
    have e3 : (!(V.ref tp :: us).reverse.isEmpty) = true := by
      rw [List.reverse_cons]
      cases us.reverse <;> rfl
    rw [e3]
    refine rd_go ?_
    walk_at "rd"
    refine rd_tyL (sqL hw') (rd_pop hw' ?_)
    have k1 : Tk H' (upd H' w (.lst us.reverse)) := fun p xs h => by rw [upd_ne (ne_of h hw' (fun z => nomatch z))]; exact h
    have sm2 : Same H (upd H' w (.lst us.reverse)) := Same.put sm nw0 _
    have hw2 : (upd H' w (.lst us.reverse)) w = some (.lst us.reverse) := upd_same
    have ht' := k1 _ _ ht
    have b1' := b1.keep k1
    have b2' := b2.keep k1
    generalize upd H' w (.lst us.reverse) = H2 at sm2 hw2 ht' b1' b2'
    refine rd_gtup (sqT ht') rfl ?_
    walk_at "rd"
    refine ⟨t, u, rfl, b1', fun pp items H3 s3 hp hks => ?_⟩
    have lk := hks.length
    have lk2 := kids_le t
    have l2 := b2.length
    have l3 : ts.length ≤ psum ts := by
      have := len_wsum (ts.map (·.1))
      rw [List.length_map] at this
      exact this
    have wt : psum ((t, d) :: ts) = t.words + psum ts := rfl
    refine rd_atT (sqT hp) (forT (xs := items) (fun i σ' H' => ∃ (nv : List V) (y : Option V), σ' = [some v, some (.int ((max g d : Nat) : Int)), some (.ref w), some u, some (.int (d : Int)), y] ∧ Tk H3 H' ∧ Same H H' ∧
      H' w = some (.lst (us.reverse ++ nv)) ∧ PairsAt H' ((t.kids.take i).map fun k => (k, d + 1)) nv) ⟨[], y3, ?_, Tk.refl, sm2.trans s3, ?_, .nil⟩ (fun i σ' H' _ ⟨_, _, _, z, _⟩ => sqT (z _ _ hp)) ?_ ?_)
    · rw [← max_nat]
      rfl
    · rw [List.append_nil]
      exact s3 _ _ hw2
    · rintro i x σ' H4 hi ⟨nv, y, rfl, tk, sm4, hw4, pa⟩
      obtain ⟨kd, hkd, hat⟩ := hks.get hi
      have i1 := (List.getElem?_eq_some_iff.mp hi).1
      have i2 := pa.length
      rw [List.length_map, List.length_take] at i2
      walk_at "rd"
      refine rd_tyL (sqL hw4) ?_
      walk_at "rd"
      refine ⟨by show 2 ≤ sizeLine; decide, fun p5 n5 => ?_⟩
      have s5 : Same H4 (upd H4 p5 (.tup [x, .int ((d : Int) + 1)])) := Same.new n5 _
      walk_at "rd"
      refine rd_append (s5 _ _ hw4) (by rw [List.length_append, List.length_reverse]; omega) ?_
      have k6 : Tk (upd H4 p5 (.tup [x, .int ((d : Int) + 1)])) (upd (upd H4 p5 (.tup [x, .int ((d : Int) + 1)])) w (.lst (us.reverse ++ nv ++ [.ref p5]))) := fun p xs h => by
        rw [upd_ne (ne_of h (s5 _ _ hw4) (fun z => nomatch z))]
        exact h
      have k7 := (Tk.of s5).trans k6
      refine ⟨nv ++ [.ref p5], some x, rfl, tk.trans k7, Same.put (sm4.trans s5) nw0 _, ?_, ?_⟩
      · rw [upd_same, List.append_assoc]
      · rw [List.take_add_one, hkd, List.map_append]
        have more : ∀ {ss : List (Say × Nat)} {vs : List V} {H5 : Hp} {q : Say × Nat} {w5 : V}, PairsAt H5 ss vs → PairsAt H5 [q] [w5] → PairsAt H5 (ss ++ [q]) (vs ++ [w5]) := by
          intro ss vs H5 q w5 h1 h2
          induction h1 with
          | nil => exact h2
          | cons a b c ih => exact .cons a b ih
        exact more (pa.keep k7) (.cons (k6 _ _ upd_same) ((hat.keep tk).keep k7) .nil)
    · rintro σ' H4 ⟨nv, y, rfl, tk, sm4, hw4, pa⟩
      rw [← lk, List.take_length] at pa
      have pr : PairsAt H4 ((t.kids.map fun k => (k, d + 1)).reverse ++ ts) (nv.reverse ++ us) := by
        have app : ∀ {ss tt : List (Say × Nat)} {vs ws : List V}, PairsAt H4 ss vs → PairsAt H4 tt ws → PairsAt H4 (ss ++ tt) (vs ++ ws) := by
          intro ss tt vs ws h1 h2
          induction h1 with
          | nil => exact h2
          | cons a b c ih => exact .cons a b ih
        have rev : ∀ {ss : List (Say × Nat)} {vs : List V}, PairsAt H4 ss vs → PairsAt H4 ss.reverse vs.reverse := by
          intro ss vs h1
          induction h1 with
          | nil => exact .nil
          | cons a b c ih =>
            rw [List.reverse_cons, List.reverse_cons]
            exact app ih (.cons a b .nil)
        exact app (rev pa) (b2'.keep ((Tk.of s3).trans tk))
      have es : psum ((t.kids.map fun k => (k, d + 1)).reverse ++ ts) = wsum t.kids + psum ts := by
        unfold psum
        rw [List.map_append, wsum_append, List.map_reverse, List.map_map]
        have e9 : ((fun x : Say × Nat => x.1) ∘ fun k => (k, d + 1)) = id := rfl
        rw [e9, List.map_id]
        congr 1
        unfold wsum
        rw [List.map_reverse, List.sum_reverse]
      refine ⟨psum ((t.kids.map fun k => (k, d + 1)).reverse ++ ts), ?_, max g d, _, nv.reverse ++ us, _, _, _, rfl, sm4, ?_, pr, ?_, ?_, rfl⟩
      · rw [es, wt, words_kids t]
        omega
      · rw [List.reverse_append, List.reverse_reverse]
        exact hw4
      · rw [pdeep_append, pdeep_perm, pdeep_step]
        exact e1
      · rw [es]
        rw [wt, words_kids t] at b0
        omega
end

def spOcc : Sp := fun vs H Q _ => ∃ (s : Say) (v : V) (x : Str), vs = [v, .str x] ∧ SayAt H s v ∧ s.words ≤ 100000 ∧ ∀ H' : Hp, Same H H' → Q (.int ((s.all.filter (atName x)).length : Int)) H'
section
variable {P : Program} {w : World} {K : PySem.W.Frag} {mg : Str → Option Value} {base : Heap}
theorem sc_occurrences : FnScope ["saying", "name", "word"] ["saying", "name"] (defScope s_occurrences) := ⟨rfl, rfl, rfl, by decide +kernel, rfl, by decide +kernel, by decide +kernel⟩
theorem ok_occurrences (T : Txt P K mg) {k : Nat} : FnOk P w K mg base CX0 (k + 3) T.f_occurrences T.d_occurrences ["saying", "name"] spOcc := by
  refine T.F_occurrences.ok sc_occurrences (fun vs H Q E h => ?_) (fun cdv A outer s H vs Q E hr h => ?_)
  · obtain ⟨s, v, x, rfl, _⟩ := h
    rfl
  obtain ⟨s, v, x, rfl, hs, hw, q⟩ := h
  refine ⟨_, (pss_one (ps_ret (pe_callB (len_seqK K) (by rfl) T.z_len (by decide +kernel) (pa_cons (pe_lc (own := [("word", 2)]) (g := (gName 2)) rfl sc_occurrences.nd (pi_list (pe_call (ok_all_words T) hr (by rfl) T.g_all_words T.F_all_words.kp T.b_all_words .nil pass0 (pa_cons (pv 0) pa_nil))) (blkOk_by (N := ["saying", "name", "word"]) (sc := defScope s_occurrences) (by decide +kernel)) (fun _ _ _ _ _ => (pg_name (i := 2) sc_occurrences.nd rfl (Or.inl rfl))) (fun _ _ _ _ _ => (pts_one (PW.pt (pw_and (pt_cmpR op_eq (pe_ix (ix_tupK K) (pv 2) pe_int (fun _ _ => rfl)) pe_str (by rfl)) (pw_and1 (pt_cmpR op_eq (pe_ix (ix_tupK K) (pv 2) pe_int (fun _ _ => rfl)) (pv 1) (by rfl))))))) (fun _ _ _ _ _ => (pv 2))) pa_nil)))), ?_⟩
  try dsimp only [L2.cxOf, L2.Cx.nox]
  walk_at "rd"
  refine ⟨s, v, rfl, hs, hw, fun l fv H' s1 hl ha => ?_⟩
  have many := ha.length
  rw [all_len] at many
  have at_ : ∀ i, i < fv.length → ∃ t, s.all[i]? = some t ∧ SayAt H' t (fv.getD i .non) := by
    intro i hi
    obtain ⟨t, e, h⟩ := ha.get (i := i) (v := fv[i]) (List.getElem?_eq_getElem hi)
    refine ⟨t, e, ?_⟩
    rw [List.getD_eq_getElem?_getD, List.getElem?_eq_getElem hi]
    exact h
  refine rd_atL (sqL hl) fun p4 n4 => lc_src walk_list (fun i => fv.getD i .non) ?_ (fun i => atName x (s.all.getD i .yes)) (fun i => fv.getD i .non) (by omega) n4 (fun H2 z => sqL (z _ _ hl)) (fun x => rfl) ?_ ?_ ?_
  · rintro i H0 y H2 hi ⟨rfl, e⟩
    rw [List.getD_eq_getElem?_getD, e]
    exact ⟨rfl, rfl⟩
  · intro i H2 R hi z r
    obtain ⟨t, e, h⟩ := at_ i hi
    obtain ⟨p, items, e2, hp, hk⟩ := (h.keep (Tk.of z)).node
    rw [List.getD_eq_getElem?_getD, e] at r
    walk_at "rd"
    rw [e2]
    refine rd_ixT (sqT hp) (atI_nat (j := 0) rfl) ?_
    walk_at "rd"
    rcases hk with ⟨y, rfl, rfl⟩ | ⟨hu, _⟩
    · refine rd_true (by rfl) ?_
      walk_at "rd"
      refine rd_ixT (sqT hp) (atI_nat (j := 1) rfl) ?_
      walk_at "rd"
      have e3 : decide (V.str y = V.str x) = atName x (.unk y) := by
        show _ = decide (y = x)
        by_cases c : y = x
        · rw [decide_eq_true c, c, decide_eq_true rfl]
        · rw [decide_eq_false c, decide_eq_false (fun z => c (V.str.inj z))]
      rw [e3]
      exact r
    · refine rd_false (head_unk hu) ?_
      have e3 : atName x t = false := by
        cases t with
        | unk y => cases hu
        | _ => rfl
      have r' : R (atName x t) H2 := r
      rw [e3] at r'
      exact r'
  · intro i H2 R hi hf z r
    walk_at "rd"
    exact r H2 (Same.refl _)
  intro H4 s4 g4
  walk_at "rd"
  refine rd_len (.inl (sqL g4)) ?_
  walk_at "rd"
  have e : (Evl.given fv.length (fun i => atName x (s.all.getD i .yes)) fun i => fv.getD i .non).length = (s.all.filter (atName x)).length := by
    unfold Evl.given
    rw [List.length_map, many.symm, ← all_len]
    exact count_range s.all .yes (atName x)
  rw [e]
  exact q H4 (s1.trans s4)
end

/-! ### one saying in the place of a name -/
def putS (x : Str) (o : Say) : Say → Say
  | .unk y => if y = x then o else .unk y
  | .yes => .yes
  | .no => .no
  | .not a => .not (putS x o a)
  | .bin k a b => .bin k (putS x o a) (putS x o b)
def occS (x : Str) : Say → Nat
  | .unk y => if y = x then 1 else 0
  | .yes => 0
  | .no => 0
  | .not a => occS x a
  | .bin _ a b => occS x a + occS x b
def szS (x : Str) (W D : Nat) : Say → Nat × Nat
  | .unk y => if y = x then (W, D) else (1, 0)
  | .yes => (1, 0)
  | .no => (1, 0)
  | .not a => (1 + (szS x W D a).1, (szS x W D a).2 + 1)
  | .bin _ a b => (1 + (szS x W D a).1 + (szS x W D b).1, max ((szS x W D a).2 + 1) ((szS x W D b).2 + 1))
theorem occ_all (x : Str) : ∀ s : Say, (s.all.filter (atName x)).length = occS x s
  | .unk y => by
    show (([.unk y] : List Say).filter (atName x)).length = if y = x then 1 else 0
    by_cases c : y = x
    · rw [if_pos c, List.filter_cons_of_pos (by show decide (y = x) = true; exact decide_eq_true c)]
      rfl
    · rw [if_neg c, List.filter_cons_of_neg (by show ¬ decide (y = x) = true; rw [decide_eq_false c]; exact Bool.false_ne_true)]
      rfl
  | .yes => rfl
  | .no => rfl
  | .not a => by
    show ((Say.not a :: a.all).filter (atName x)).length = occS x a
    rw [List.filter_cons_of_neg (show ¬ atName x (.not a) = true from Bool.false_ne_true), occ_all x a]
  | .bin k a b => by
    show ((Say.bin k a b :: (a.all ++ b.all)).filter (atName x)).length = occS x a + occS x b
    rw [List.filter_cons_of_neg (show ¬ atName x (.bin k a b) = true from Bool.false_ne_true), List.filter_append, List.length_append, occ_all x a, occ_all x b]
theorem put_words (x : Str) (o : Say) : ∀ s : Say, (putS x o s).words + occS x s = s.words + occS x s * o.words
  | .unk y => by
    show (if y = x then o else Say.unk y).words + (if y = x then 1 else 0) = 1 + (if y = x then 1 else 0) * o.words
    by_cases c : y = x
    · rw [if_pos c, if_pos c]
      omega
    · rw [if_neg c, if_neg c, Nat.zero_mul]
      rfl
  | .yes => by show 1 + 0 = 1 + 0 * o.words; rw [Nat.zero_mul]
  | .no => by show 1 + 0 = 1 + 0 * o.words; rw [Nat.zero_mul]
  | .not a => by
    have := put_words x o a
    show (putS x o a).words + 1 + occS x a = a.words + 1 + occS x a * o.words
    omega
  | .bin k a b => by
    have h1 := put_words x o a
    have h2 := put_words x o b
    show (putS x o a).words + (putS x o b).words + 1 + (occS x a + occS x b) = a.words + b.words + 1 + (occS x a + occS x b) * o.words
    rw [Nat.add_mul]
    omega
theorem put_none (x : Str) (o : Say) : ∀ s : Say, occS x s = 0 → putS x o s = s
  | .unk y, h => by
    have h : (if y = x then 1 else 0) = 0 := h
    show (if y = x then o else Say.unk y) = Say.unk y
    by_cases c : y = x
    · rw [if_pos c] at h
      cases h
    · rw [if_neg c]
  | .yes, _ => rfl
  | .no, _ => rfl
  | .not a, h => by
    show Say.not (putS x o a) = Say.not a
    rw [put_none x o a h]
  | .bin k a b, h => by
    have h : occS x a + occS x b = 0 := h
    show Say.bin k (putS x o a) (putS x o b) = Say.bin k a b
    rw [put_none x o a (by omega), put_none x o b (by omega)]
theorem sz_put (x : Str) (o : Say) : ∀ s : Say, szS x o.words o.depth s = ((putS x o s).words, (putS x o s).depth)
  | .unk y => by
    show (if y = x then (o.words, o.depth) else (1, 0)) = ((if y = x then o else Say.unk y).words, (if y = x then o else Say.unk y).depth)
    by_cases c : y = x
    · rw [if_pos c, if_pos c]
    · rw [if_neg c, if_neg c]
      rfl
  | .yes => rfl
  | .no => rfl
  | .not a => by
    show (1 + (szS x o.words o.depth a).1, (szS x o.words o.depth a).2 + 1) = ((putS x o a).words + 1, (putS x o a).depth + 1)
    rw [sz_put x o a, Nat.add_comm 1]
  | .bin k a b => by
    show (1 + (szS x o.words o.depth a).1 + (szS x o.words o.depth b).1, max ((szS x o.words o.depth a).2 + 1) ((szS x o.words o.depth b).2 + 1)) = ((putS x o a).words + (putS x o b).words + 1, max (putS x o a).depth (putS x o b).depth + 1)
    rw [sz_put x o a, sz_put x o b]
    refine Prod.ext ?_ ?_
    · show 1 + _ + _ = _
      omega
    · show max (_ + 1) (_ + 1) = max _ _ + 1
      omega
theorem sz_one (x : Str) (s : Say) : szS x 1 0 s = (s.words, s.depth) := by
  have h := sz_put x .yes s
  have e : ∀ s : Say, (putS x .yes s).words = s.words ∧ (putS x .yes s).depth = s.depth := by
    intro s
    induction s with
    | unk y =>
      show (if y = x then Say.yes else Say.unk y).words = 1 ∧ (if y = x then Say.yes else Say.unk y).depth = 0
      split <;> exact ⟨rfl, rfl⟩
    | yes => exact ⟨rfl, rfl⟩
    | no => exact ⟨rfl, rfl⟩
    | not a ih => exact ⟨congrArg (· + 1) ih.1, congrArg (· + 1) ih.2⟩
    | bin k a b ia ib =>
      show (putS x .yes a).words + (putS x .yes b).words + 1 = a.words + b.words + 1 ∧ max (putS x .yes a).depth (putS x .yes b).depth + 1 = max a.depth b.depth + 1
      rw [ia.1, ia.2, ib.1, ib.2]
      exact ⟨rfl, rfl⟩
  rw [(e s).1, (e s).2] at h
  exact h
def stepS (x : Str) (W D : Nat) (p : Nat × Nat) (k : Say) : Nat × Nat := (p.1 + (szS x W D k).1, max p.2 ((szS x W D k).2 + 1))
theorem sz_kids {x : Str} {W D : Nat} {s : Say} (h : s.isUnk = false) : s.kids.foldl (stepS x W D) (1, 0) = szS x W D s := by
  cases s with
  | unk y => cases h
  | yes => rfl
  | no => rfl
  | not a => exact Prod.ext rfl (Nat.zero_max _)
  | bin k a b => exact Prod.ext rfl (by show max (max 0 _) _ = _; rw [Nat.zero_max]; rfl)
theorem step_more {x : Str} {W D : Nat} {l : List Say} {i : Nat} {k : Say} (h : l[i]? = some k) : (l.take (i + 1)).foldl (stepS x W D) (1, 0) = stepS x W D ((l.take i).foldl (stepS x W D) (1, 0)) k := by
  rw [List.take_add_one, h, List.foldl_append]
  rfl
theorem put_kids {x : Str} {o s : Say} (h : s.isUnk = false) : (putS x o s).kids = s.kids.map (putS x o) ∧ (putS x o s).head = s.head := by
  cases s with
  | unk y => cases h
  | yes => exact ⟨rfl, rfl⟩
  | no => exact ⟨rfl, rfl⟩
  | not a => exact ⟨rfl, rfl⟩
  | bin k a b => exact ⟨rfl, rfl⟩
/-- a word put together from its head and the places of its parts -/
theorem say_of_kids {H : Hp} {s : Say} {p : Addr} {items : List V} (h : s.isUnk = false) (hp : H p = some (.tup (.str s.head :: items))) (hk : SaysAt H s.kids items) : SayAt H s (.ref p) := by
  cases s with
  | unk y => cases h
  | yes =>
    cases hk
    exact ⟨p, rfl, hp⟩
  | no =>
    cases hk
    exact ⟨p, rfl, hp⟩
  | not a =>
    cases hk with
    | cons ha r =>
      cases r
      exact ⟨p, _, rfl, hp, ha⟩
  | bin k a b =>
    cases hk with
    | cons ha r =>
      cases r with
      | cons hb r2 =>
        cases r2
        exact ⟨p, _, _, rfl, hp, ha, hb⟩
/-! ### comprehensions whose turns make new things -/
theorem lcNew {σ : L2.St} {H1 : Hp} {te : TE} {vs : List Nat} {j n : Nat} {J : It} {G : Hp → Prop} {Y : Nat → Hp → V → Hp → Prop} {Dl : Addr} {Qd : Hp → Prop} (wk : Walk J n G Y) (src : Nat → V) (B : Nat → V → Hp → Prop)
    (hB : ∀ i v H H', Same H H' → B i v H → B i v H') (hU : ∀ i v H ys zs, H Dl = some (.lst ys) → B i v H → B i v (upd H Dl (.lst zs))) (hn : n ≤ 1000000) (hD : H1 Dl = none)
    (hy : ∀ i H x H', i < n → Y i H x H' → H' = H ∧ x = src i) (hG : ∀ H', Same H1 H' → G H') (hw : ∀ x, wipe ((wipe σ vs).set j (some x)) vs = wipe σ vs)
    (he : ∀ i H' (R : VK), i < n → Same H1 H' → (∀ v H'', Same H' H'' → B i v H'' → R v H'') → te ((wipe σ vs).set j (some (src i))) H' R)
    (hd : ∀ acc H', Same H1 H' → H' Dl = some (.lst acc) → acc.length = n → (∀ (i : Nat) (v : V), acc[i]? = some v → B i v H') → Qd H') :
    ∃ W : Nat → Nat → Hp → Prop, (∃ m, W 0 m (upd H1 Dl (.lst []))) ∧ ∀ i m H, W i m H →
      (J.stop i H ∧ Qd H) ∨ (J.go i H ∧ ∃ Nx : Hp → Prop, (∀ H', Nx H' → ∃ m', m' < m ∧ W (i + 1) m' H') ∧
        ∀ x H', J.yld i H x H' → gName j x (wipe σ vs) H' fun σ2 H2 => wipe σ2 vs = wipe σ vs ∧ tYes σ2 H2 fun b H3 =>
          if b = true then te σ2 H3 fun y H4 => ∃ acc, H4 Dl = some (.lst acc) ∧ acc.length < sizeLine ∧ Nx (upd H4 Dl (.lst (acc ++ [y]))) else Nx H3) := by
  refine lc_it wk (fun i H' => ∃ acc : List V, Same H1 H' ∧ H' Dl = some (.lst acc) ∧ acc.length = i ∧ ∀ (j : Nat) (v : V), acc[j]? = some v → B j v H') ⟨[], Same.new hD _, upd_same, rfl, fun j v e => by have e : ([] : List V)[j]? = some v := e; rw [List.getElem?_nil] at e; cases e⟩ (fun i H' _ ⟨_, s, _⟩ => hG H' s) ?_ ?_
  · rintro i x H H' hi ⟨acc, s, hl, al, hb⟩ y
    obtain ⟨rfl, rfl⟩ := hy i H x H' hi y
    refine ⟨hw _, rd_yes (iteT (he i _ _ hi s fun v H2 s2 b2 => ?_))⟩
    have hl2 := s2 _ _ hl
    refine ⟨acc, hl2, by rw [al, sizeLine_eq]; omega, acc ++ [v], Same.put (s.trans s2) hD _, upd_same, by rw [List.length_append, al]; rfl, fun q u e => ?_⟩
    refine hU _ _ _ _ _ hl2 ?_
    by_cases c : q < acc.length
    · rw [List.getElem?_append_left c] at e
      exact hB _ _ _ _ s2 (hb q u e)
    · rw [List.getElem?_append_right (by omega)] at e
      have q0 : q = acc.length := by
        have := (List.getElem?_eq_some_iff.mp e).1
        simp at this
        omega
      subst q0
      rw [Nat.sub_self] at e
      obtain rfl : v = u := Option.some.inj e
      rw [al]
      exact b2
  · rintro H' ⟨acc, s, hl, al, hb⟩
    exact hd acc H' s hl al hb
theorem says_of {H : Hp} : ∀ {ss : List Say} {vs : List V}, ss.length = vs.length → (∀ (i : Nat) (v : V), vs[i]? = some v → ∃ t, ss[i]? = some t ∧ SayAt H t v) → SaysAt H ss vs
  | [], [], _, _ => .nil
  | [], _ :: _, h, _ => by cases h
  | _ :: _, [], h, _ => by cases h
  | s :: ss, v :: vs, h, f => by
    obtain ⟨t, e, ht⟩ := f 0 v rfl
    obtain rfl : s = t := Option.some.inj e
    exact .cons ht (says_of (Nat.succ.inj h) fun i v e => f (i + 1) v e)
theorem say_updL {H : Hp} {d : Addr} {ys zs : List V} (hd : H d = some (.lst ys)) {s : Say} {v : V} (h : SayAt H s v) : SayAt (upd H d (.lst zs)) s v := h.keep fun p xs e => by
  rw [upd_ne (fun z => by rw [z, hd] at e; cases e)]
  exact e

/-! ### sizes, the law's putting, the program's -/
def leafS : Say → Bool
  | .unk _ => true
  | .yes => true
  | .no => true
  | .not _ => false
  | .bin _ _ _ => false
def spSize (n : Nat) : Sp := fun vs H Q _ => ∃ (s : Say) (v : V) (x : Str) (W D : Nat), vs = [v, .str x, .int (W : Int), .int (D : Int)] ∧ SayAt H s v ∧ s.depth < n ∧
  ∀ (p : Addr) (H' : Hp), Same H H' → H' p = some (.tup [.int ((szS x W D s).1 : Int), .int ((szS x W D s).2 : Int)]) → Q (.ref p) H'
def spPut (n : Nat) : Sp := fun vs H Q _ => ∃ (s o : Say) (v u : V) (x : Str), vs = [v, .str x, u] ∧ SayAt H s v ∧ SayAt H o u ∧ s.depth < n ∧
  ∀ (r : V) (H' : Hp), Same H H' → SayAt H' (putS x o s) r → Q r H'
section
variable {P : Program} {w : World} {K : PySem.W.Frag} {mg : Str → Option Value} {base : Heap}
theorem head_in3 (s : Say) : inV (V.str s.head) [V.str (Str.ofString "unknown"), V.str (Str.ofString "yes"), V.str (Str.ofString "no")] = leafS s := by
  cases s with
  | unk y => rfl
  | yes =>
    show inV (V.str (Str.ofString "yes")) _ = true
    decide +kernel
  | no =>
    show inV (V.str (Str.ofString "no")) _ = true
    decide +kernel
  | not a =>
    show inV (V.str (Str.ofString "not")) _ = false
    decide +kernel
  | bin k a b =>
    show inV (V.str k.str) _ = false
    cases k <;> decide +kernel
theorem sc_law_size : FnScope ["saying", "name", "words", "depth", "many", "deep", "inner", "more", "down"] ["saying", "name", "words", "depth"] (defScope s_law_size) := ⟨rfl, rfl, rfl, by decide +kernel, rfl, by decide +kernel, by decide +kernel⟩
theorem ok_law_size (T : Txt P K mg) {k : Nat} : ∀ n : Nat, FnOk P w K mg base CX0 (k + n) T.f_law_size T.d_law_size ["saying", "name", "words", "depth"] (spSize n)
  | 0 => by
    have no : ∀ vs H Q E, ¬ spSize 0 vs H Q E := fun vs H Q E h => by
      obtain ⟨s, v, x, W, D, _, _, h, _⟩ := h
      exact Nat.not_lt_zero _ h
    exact ⟨fun vs H Q E h => absurd h (no vs H Q E), fun A outer s H args us vs Q E _ _ _ _ h => absurd h (no vs H Q E)⟩
  | n + 1 => by
    have ih := ok_law_size T (k := k) n
    refine T.F_law_size.ok sc_law_size (fun vs H Q E h => ?_) (fun cdv A outer s H vs Q E hr h => ?_)
    · obtain ⟨s, v, x, W, D, rfl, _⟩ := h
      rfl
    obtain ⟨s, v, x, W, D, rfl, hs, hd, q⟩ := h
    refine ⟨_, (pss_cons (ps_if (PW.pt (pw_and (pt_cmpR op_eq (pe_ix (ix_tupK K) (pv 0) pe_int (fun _ _ => rfl)) pe_str (by rfl)) (pw_and1 (pt_cmpR op_eq (pe_ix (ix_tupK K) (pv 0) pe_int (fun _ _ => rfl)) (pv 1) (by rfl))))) (pss_one (ps_ret (pe_tup (pa_cons (pv 2) (pa_cons (pv 3) pa_nil))))) pss_nil)
    (pss_cons (ps_if (pt_cmpR (in_seqK K) (pe_ix (ix_tupK K) (pv 0) pe_int (fun _ _ => rfl)) (pe_tup (pa_cons pe_str (pa_cons pe_str (pa_cons pe_str pa_nil)))) (by rfl)) (pss_one (ps_ret (pe_tup (pa_cons pe_int (pa_cons pe_int pa_nil))))) pss_nil)
    (pss_cons (ps_asg (pe_tup (pa_cons pe_int (pa_cons pe_int pa_nil))) (pg_tup rfl (pgs_cons (pg_name (i := 4) sc_law_size.nd rfl (Or.inl rfl)) (pgs_cons (pg_name (i := 5) sc_law_size.nd rfl (Or.inl rfl)) pgs_nil))))
    (pss_cons (ps_for PassesOwn.never rfl (pi_tup (pe_slice (sl_tupK K) (pv 0) (po_some pe_int) po_none)) (pg_name (i := 6) sc_law_size.nd rfl (Or.inl rfl)) (pss_cons (ps_asg (pe_call ih hr (by rfl) T.g_law_size T.F_law_size.kp T.b_law_size .nil pass0 (pa_cons (pv 6) (pa_cons (pv 1) (pa_cons (pv 2) (pa_cons (pv 3) pa_nil))))) (pg_tup rfl (pgs_cons (pg_name (i := 7) sc_law_size.nd rfl (Or.inl rfl)) (pgs_cons (pg_name (i := 8) sc_law_size.nd rfl (Or.inl rfl)) pgs_nil))))
    (pss_cons (ps_set (i := 4) sc_law_size.nd rfl (Or.inl rfl) (pe_op op_add (pv 4) (pv 7)))
    (pss_one (ps_set (i := 5) sc_law_size.nd rfl (Or.inl rfl) (pe_callB (call_max2 rfl) (by rfl) T.z_max (by decide +kernel) (pa_cons (pv 5) (pa_cons (pe_op op_add (pv 8) pe_int) pa_nil))))))))
    (pss_one (ps_ret (pe_tup (pa_cons (pv 4) (pa_cons (pv 5) pa_nil))))))))), ?_⟩
    try dsimp only [L2.cxOf, L2.Cx.nox]
    obtain ⟨p, items, rfl, hp, hk⟩ := hs.node
    have small : ∀ {H1 : Hp}, Same H H1 → SqT K H1 p (.str s.head :: items) → szS x W D s = (1, 0) → leafS s = true → ∀ {D2 : Ends} {u : TS}, D2.rt = Q →
        tSeq (tIfS (tTest (tOp (rIn K false) (tOp (rIxT K) (tVar 0) (tC (V.int 0))) (tTup (tCons (tC (V.str (Str.ofString "unknown"))) (tCons (tC (V.str (Str.ofString "yes"))) (tCons (tC (V.str (Str.ofString "no"))) tNil)))))) (tRet (tTup (tCons (tC (V.int 1)) (tCons (tC (V.int 0)) tNil)))) tNext) u D2
          (L2.start [Str.ofString "saying", Str.ofString "name", Str.ofString "words", Str.ofString "depth", Str.ofString "many", Str.ofString "deep", Str.ofString "inner", Str.ofString "more", Str.ofString "down"] [V.ref p, V.str x, V.int (W : Int), V.int (D : Int)]) H1 := by
      intro H1 s1 h1 e m D2 u hrt
      walk_at "rd"
      refine rd_ixT h1 (atI_nat (j := 0) rfl) ?_
      walk_at "rd"
      refine ⟨by show 3 ≤ sizeLine; decide, fun p2 n2 => ?_⟩
      have s2 := Same.new n2 (.tup [V.str (Str.ofString "unknown"), V.str (Str.ofString "yes"), V.str (Str.ofString "no")])
      refine rd_in (b := true) (.inr (sqT upd_same)) rfl rfl (by rw [head_in3, m]) ?_
      walk_at "rd"
      refine iteT ?_
      walk_at "rd"
      refine ⟨by show 2 ≤ sizeLine; decide, fun p3 n3 => ?_⟩
      rw [hrt]
      refine q p3 _ ((s1.trans s2).trans (Same.new n3 _)) ?_
      rw [e, upd_same]
      rfl
    walk_at "rd"
    refine rd_ixT (sqT hp) (atI_nat (j := 0) rfl) ?_
    walk_at "rd"
    rcases hk with ⟨y, rfl, rfl⟩ | ⟨hu, hks⟩
    · refine rd_true (by rfl) ?_
      walk_at "rd"
      refine rd_ixT (sqT hp) (atI_nat (j := 1) rfl) ?_
      walk_at "rd"
      refine rd_two (fun c => ?_) (fun c => ?_)
      · have c := V.str.inj c
        walk_at "rd"
        refine ⟨by show 2 ≤ sizeLine; decide, fun p3 n3 => ?_⟩
        refine q p3 _ (Same.new n3 _) ?_
        rw [upd_same]
        unfold szS
        rw [if_pos c]
      · have c : ¬ y = x := fun z => c (congrArg V.str z)
        exact small (Same.refl _) (sqT hp) (by unfold szS; rw [if_neg c]) rfl rfl
    · refine rd_false (head_unk hu) ?_
      refine iteF ?_
      by_cases c1 : s = .yes
      · subst c1
        exact small (Same.refl _) (sqT hp) rfl rfl rfl
      by_cases c2 : s = .no
      · subst c2
        exact small (Same.refl _) (sqT hp) rfl rfl rfl
      have mf : leafS s = false := by
        cases s with
        | unk y => cases hu
        | yes => exact absurd rfl c1
        | no => exact absurd rfl c2
        | not a => rfl
        | bin k a b => rfl
      walk_at "rd"
      refine rd_ixT (sqT hp) (atI_nat (j := 0) rfl) ?_
      walk_at "rd"
      refine ⟨by show 3 ≤ sizeLine; decide, fun p2 n2 => ?_⟩
      have s2 := Same.new n2 (.tup [V.str (Str.ofString "unknown"), V.str (Str.ofString "yes"), V.str (Str.ofString "no")])
      refine rd_in (b := false) (.inr (sqT upd_same)) rfl rfl (by rw [head_in3, mf]) ?_
      walk_at "rd"
      refine iteF ?_
      walk_at "rd"
      refine ⟨by show 2 ≤ sizeLine; decide, fun p3 n3 => ?_⟩
      have s3 := Same.new n3 (.tup [V.int 1, V.int 0])
      refine rd_gtup (sqT upd_same) rfl ?_
      walk_at "rd"
      have s23 := s2.trans s3
      refine rd_tail (sqT (s23 _ _ hp)) fun p4 n4 => ?_
      have s4 := Same.new n4 (.tup items)
      have s24 := s23.trans s4
      refine rd_atT (sqT upd_same) (forT (xs := items) (fun i σ H' => ∃ y6 y7 y8 : Option V, σ = [some (.ref p), some (.str x), some (.int (W : Int)), some (.int (D : Int)), some (.int (((s.kids.take i).foldl (stepS x W D) (1, 0)).1 : Int)), some (.int (((s.kids.take i).foldl (stepS x W D) (1, 0)).2 : Int)), y6, y7, y8] ∧ Same (upd (upd (upd H p2 (.tup [V.str (Str.ofString "unknown"), V.str (Str.ofString "yes"), V.str (Str.ofString "no")])) p3 (.tup [V.int 1, V.int 0])) p4 (.tup items)) H') ⟨none, none, none, rfl, Same.refl _⟩ (fun i σ H' _ ⟨_, _, _, _, z⟩ => z.seqT (sqT upd_same)) ?_ ?_)
      · rintro i x' σ H' hi ⟨y6, y7, y8, rfl, z⟩
        obtain ⟨kd, hkd, hat⟩ := hks.get hi
        walk_at "rd"
        refine ⟨kd, x', x, W, D, rfl, hat.keep (Tk.of (s24.trans z)), ?_, fun p5 H5 s5 h5 => ?_⟩
        · have := kid_depth (List.mem_of_getElem? hkd)
          omega
        refine rd_gtup (sqT h5) rfl ?_
        walk_at "rd"
        rw [step_more hkd]
        generalize (s.kids.take i).foldl (stepS x W D) (1, 0) = acc
        refine ⟨some x', some (.int ((szS x W D kd).1 : Int)), some (.int ((szS x W D kd).2 : Int)), ?_, z.trans s5⟩
        have e1 : (acc.1 : Int) + ((szS x W D kd).1 : Int) = ((stepS x W D acc kd).1 : Int) := rfl
        have e2 : (if ((szS x W D kd).2 : Int) + 1 > (acc.2 : Int) then ((szS x W D kd).2 : Int) + 1 else (acc.2 : Int)) = ((stepS x W D acc kd).2 : Int) := max_nat acc.2 ((szS x W D kd).2 + 1)
        rw [e1, e2]
        rfl
      · rintro σ H' ⟨y6, y7, y8, rfl, z⟩
        walk_at "rd"
        rw [← hks.length, List.take_length, sz_kids hu]
        refine ⟨by show 2 ≤ sizeLine; decide, fun p5 n5 => ?_⟩
        exact q p5 _ ((s24.trans z).trans (Same.new n5 _)) upd_same
end

section
variable {P : Program} {w : World} {K : PySem.W.Frag} {mg : Str → Option Value} {base : Heap}
theorem sc_law_put : FnScope ["saying", "name", "other", "inner"] ["saying", "name", "other"] (defScope s_law_put) := ⟨rfl, rfl, rfl, by decide +kernel, rfl, by decide +kernel, by decide +kernel⟩
theorem ok_law_put (T : Txt P K mg) {k : Nat} : ∀ n : Nat, FnOk P w K mg base CX0 (k + n) T.f_law_put T.d_law_put ["saying", "name", "other"] (spPut n)
  | 0 => by
    have no : ∀ vs H Q E, ¬ spPut 0 vs H Q E := fun vs H Q E h => by
      obtain ⟨s, o, v, u, x, _, _, _, h, _⟩ := h
      exact Nat.not_lt_zero _ h
    exact ⟨fun vs H Q E h => absurd h (no vs H Q E), fun A outer s H args us vs Q E _ _ _ _ h => absurd h (no vs H Q E)⟩
  | n + 1 => by
    have ih := ok_law_put T (k := k) n
    refine T.F_law_put.ok sc_law_put (fun vs H Q E h => ?_) (fun cdv A outer s H vs Q E hr h => ?_)
    · obtain ⟨s, o, v, u, x, rfl, _⟩ := h
      rfl
    obtain ⟨s, o, v, u, x, rfl, hs, ho, hd, q⟩ := h
    refine ⟨_, (pss_cons (ps_if (pt_cmpR op_eq (pe_ix (ix_tupK K) (pv 0) pe_int (fun _ _ => rfl)) pe_str (by rfl)) (pss_one (ps_ret (pe_ifExp (pt_cmpR op_eq (pe_ix (ix_tupK K) (pv 0) pe_int (fun _ _ => rfl)) (pv 1) (by rfl)) (pv 2) (pv 0)))) pss_nil)
    (pss_one (ps_ret (pe_op (op_catTK K) (pe_tup (pa_cons (pe_ix (ix_tupK K) (pv 0) pe_int (fun _ _ => rfl)) pa_nil)) (pe_callTy (tuple_ofK K) (by rfl) T.z_tuple (by decide +kernel) (pa_cons (pe_lc (own := [("inner", 3)]) (g := (gName 3)) rfl sc_law_put.nd (pi_tup (pe_slice (sl_tupK K) (pv 0) (po_some pe_int) po_none)) (blkOk_by (N := ["saying", "name", "other", "inner"]) (sc := defScope s_law_put) (by decide +kernel)) (fun _ _ _ _ _ => (pg_name (i := 3) sc_law_put.nd rfl (Or.inl rfl))) (fun _ _ _ _ _ => pts_nil) (fun _ _ _ _ _ => (pe_call ih hr (by rfl) T.g_law_put T.F_law_put.kp T.b_law_put .nil pass0 (pa_cons (pv 3) (pa_cons (pv 1) (pa_cons (pv 2) pa_nil)))))) pa_nil)))))), ?_⟩
    try dsimp only [L2.cxOf, L2.Cx.nox]
    have hs0 := hs
    obtain ⟨p, items, rfl, hp, hk⟩ := hs.node
    walk_at "rd"
    refine rd_ixT (sqT hp) (atI_nat (j := 0) rfl) ?_
    walk_at "rd"
    rcases hk with ⟨y, rfl, rfl⟩ | ⟨hu, hks⟩
    · refine rd_true (by rfl) ?_
      walk_at "rd"
      refine rd_ixT (sqT hp) (atI_nat (j := 1) rfl) ?_
      walk_at "rd"
      refine rd_two (fun c => ?_) (fun c => ?_)
      · have c := V.str.inj c
        walk_at "rd"
        refine q u H (Same.refl _) ?_
        unfold putS
        rw [if_pos c]
        exact ho
      · have c : ¬ y = x := fun z => c (congrArg V.str z)
        walk_at "rd"
        refine q (.ref p) H (Same.refl _) ?_
        unfold putS
        rw [if_neg c]
        exact hs0
    · refine rd_false (head_unk hu) ?_
      obtain ⟨pk, ph⟩ := put_kids (x := x) (o := o) hu
      have pu : (putS x o s).isUnk = false := by
        cases s with
        | unk y => cases hu
        | _ => rfl
      walk_at "rd"
      refine rd_ixT (sqT hp) (atI_nat (j := 0) rfl) ?_
      walk_at "rd"
      refine ⟨by show 1 ≤ sizeLine; decide, fun p2 n2 => ?_⟩
      have s2 := Same.new n2 (.tup [V.str s.head])
      have h2 : (upd H p2 (.tup [V.str s.head])) p2 = some (.tup [V.str s.head]) := upd_same
      walk_at "rd"
      refine rd_tail (sqT (s2 _ _ hp)) fun p4 n4 => ?_
      have s4 := Same.new n4 (.tup items)
      have s24 := s2.trans s4
      have il : items.length ≤ 2 := by
        rw [← hks.length]
        cases s <;> simp [Say.kids]
      refine rd_atT (sqT upd_same) fun D5 n5 => lcNew (walk_tup (K := K) (a := p4) (xs := items)) (fun i => items.getD i .non) (fun i v H => ∃ t, (s.kids.map (putS x o))[i]? = some t ∧ SayAt H t v) (fun i v H H' z ⟨t, e, h⟩ => ⟨t, e, h.keep (Tk.of z)⟩) (fun i v H ys zs hl ⟨t, e, h⟩ => ⟨t, e, say_updL hl h⟩) (by omega) n5 ?_ (fun H' z => z.seqT (sqT upd_same)) (fun x => rfl) ?_ ?_
      · rintro i Ha y Hb hi ⟨rfl, e⟩
        rw [List.getD_eq_getElem?_getD, e]
        exact ⟨rfl, rfl⟩
      · intro i H' R hi z r
        have e : items[i]? = some (items.getD i .non) := by
          rw [List.getD_eq_getElem?_getD, List.getElem?_eq_getElem hi]
          rfl
        obtain ⟨kd, hkd, hat⟩ := hks.get e
        walk_at "rd"
        refine ⟨kd, o, _, u, x, rfl, hat.keep (Tk.of (s24.trans z)), ho.keep (Tk.of (s24.trans z)), ?_, fun rv H2 z2 a2 => r rv H2 z2 ⟨putS x o kd, ?_, a2⟩⟩
        · have := kid_depth (List.mem_of_getElem? hkd)
          omega
        · rw [List.getElem?_map, hkd]
          rfl
      · intro acc H6 s6 hl al hb
        have hsays : SaysAt H6 (s.kids.map (putS x o)) acc := says_of (by rw [List.length_map, al, hks.length]) hb
        walk_at "rd"
        refine ⟨D5, _, rfl, .inl ⟨sqL hl, fun p7 n7 => ?_⟩⟩
        have s7 := Same.new n7 (.tup acc)
        have h7 : (upd H6 p7 (.tup acc)) p7 = some (.tup acc) := upd_same
        have hh := s7 _ _ (s6 _ _ (s4 _ _ h2))
        have s27 := (s24.trans s6).trans s7
        have says7 := hsays.keep (Tk.of s7)
        refine ⟨p2, p7, [V.str s.head], acc, rfl, rfl, sqT hh, sqT h7, List.cons_ne_nil _ _, by rw [sizeLine_eq]; show 1 + acc.length ≤ _; omega, fun e => ?_, fun _ p8 n8 => ?_⟩
        · subst e
          refine q _ _ s27 (say_of_kids (items := []) pu ?_ ?_)
          · rw [ph]
            exact hh
          · rw [pk]
            exact says7
        · have s8 := Same.new n8 (.tup ([V.str s.head] ++ acc))
          refine q _ _ (s27.trans s8) (say_of_kids (items := acc) pu ?_ ?_)
          · rw [ph]
            exact upd_same
          · rw [pk]
            exact says7.keep (Tk.of s8)
end

section
variable {P : Program} {w : World} {K : PySem.W.Frag} {mg : Str → Option Value} {base : Heap}
theorem sc_changed : FnScope ["saying", "name", "other", "parts", "part"] ["saying", "name", "other"] (defScope s_changed) := ⟨rfl, rfl, rfl, by decide +kernel, rfl, by decide +kernel, by decide +kernel⟩
theorem ok_changed (T : Txt P K mg) {k : Nat} : ∀ n : Nat, FnOk P w K mg base CX0 (k + n + 1) T.f_changed T.d_changed ["saying", "name", "other"] (spPut n)
  | 0 => by
    have no : ∀ vs H Q E, ¬ spPut 0 vs H Q E := fun vs H Q E h => by
      obtain ⟨s, o, v, u, x, _, _, _, h, _⟩ := h
      exact Nat.not_lt_zero _ h
    exact ⟨fun vs H Q E h => absurd h (no vs H Q E), fun A outer s H args us vs Q E _ _ _ _ h => absurd h (no vs H Q E)⟩
  | n + 1 => by
    have ih := ok_changed T (k := k) n
    refine T.F_changed.ok sc_changed (fun vs H Q E h => ?_) (fun cdv A outer s H vs Q E hr h => ?_)
    · obtain ⟨s, o, v, u, x, rfl, _⟩ := h
      rfl
    obtain ⟨s, o, v, u, x, rfl, hs, ho, hd, q⟩ := h
    refine ⟨_, (pss_cons (ps_if (pt_cmpR op_eq (pe_ix (ix_tupK K) (pv 0) pe_int (fun _ _ => rfl)) pe_str (by rfl)) (pss_one (ps_ret (pe_ifExp (pt_cmpR op_eq (pe_ix (ix_tupK K) (pv 0) pe_int (fun _ _ => rfl)) (pv 1) (by rfl)) (pv 2) (pv 0)))) pss_nil)
    (pss_cons (ps_set (i := 3) sc_changed.nd rfl (Or.inl rfl) (pe_callTy (tuple_ofK K) (by rfl) T.z_tuple (by decide +kernel) (pa_cons (pe_lc (own := [("part", 4)]) (g := (gName 4)) rfl sc_changed.nd (pi_tup (pe_call (ok_parts_of T) hr (by rfl) T.g_parts_of T.F_parts_of.kp T.b_parts_of .nil pass0 (pa_cons (pv 0) pa_nil))) (blkOk_by (N := ["saying", "name", "other", "parts", "part"]) (sc := defScope s_changed) (by decide +kernel)) (fun _ _ _ _ _ => (pg_name (i := 4) sc_changed.nd rfl (Or.inl rfl))) (fun _ _ _ _ _ => pts_nil) (fun _ _ _ _ _ => (pe_call ih hr (by rfl) T.g_changed T.F_changed.kp T.b_changed .nil pass0 (pa_cons (pv 4) (pa_cons (pv 1) (pa_cons (pv 2) pa_nil)))))) pa_nil)))
    (pss_one (ps_ret (pe_op (op_catTK K) (pe_tup (pa_cons (pe_ix (ix_tupK K) (pv 0) pe_int (fun _ _ => rfl)) pa_nil)) (pv 3)))))), ?_⟩
    try dsimp only [L2.cxOf, L2.Cx.nox]
    have hs0 := hs
    obtain ⟨p, items, rfl, hp, hk⟩ := hs.node
    walk_at "rd"
    refine rd_ixT (sqT hp) (atI_nat (j := 0) rfl) ?_
    walk_at "rd"
    rcases hk with ⟨y, rfl, rfl⟩ | ⟨hu, hks⟩
    · refine rd_true (by rfl) ?_
      walk_at "rd"
      refine rd_ixT (sqT hp) (atI_nat (j := 1) rfl) ?_
      walk_at "rd"
      refine rd_two (fun c => ?_) (fun c => ?_)
      · have c := V.str.inj c
        walk_at "rd"
        refine q u H (Same.refl _) ?_
        unfold putS
        rw [if_pos c]
        exact ho
      · have c : ¬ y = x := fun z => c (congrArg V.str z)
        walk_at "rd"
        refine q (.ref p) H (Same.refl _) ?_
        unfold putS
        rw [if_neg c]
        exact hs0
    · refine rd_false (head_unk hu) ?_
      obtain ⟨pk, ph⟩ := put_kids (x := x) (o := o) hu
      have pu : (putS x o s).isUnk = false := by
        cases s with
        | unk y => cases hu
        | _ => rfl
      walk_at "rd"
      refine ⟨s, .ref p, rfl, hs0, fun p4 items4 H4 s4 h4 says4 => ?_⟩
      have s24 := s4
      have il : items4.length ≤ 2 := by
        rw [← says4.length]
        cases s <;> simp [Say.kids]
      refine rd_atT (sqT h4) fun D5 n5 => lcNew (walk_tup (K := K) (a := p4) (xs := items4)) (fun i => items4.getD i .non) (fun i v H => ∃ t, (s.kids.map (putS x o))[i]? = some t ∧ SayAt H t v) (fun i v H H' z ⟨t, e, h⟩ => ⟨t, e, h.keep (Tk.of z)⟩) (fun i v H ys zs hl ⟨t, e, h⟩ => ⟨t, e, say_updL hl h⟩) (by omega) n5 ?_ (fun H' z => z.seqT (sqT h4)) (fun x => rfl) ?_ ?_
      · rintro i Ha y Hb hi ⟨rfl, e⟩
        rw [List.getD_eq_getElem?_getD, e]
        exact ⟨rfl, rfl⟩
      · intro i H' R hi z r
        have e : items4[i]? = some (items4.getD i .non) := by
          rw [List.getD_eq_getElem?_getD, List.getElem?_eq_getElem hi]
          rfl
        obtain ⟨kd, hkd, hat⟩ := says4.get e
        walk_at "rd"
        refine ⟨kd, o, _, u, x, rfl, hat.keep (Tk.of z), ho.keep (Tk.of (s24.trans z)), ?_, fun rv H2 z2 a2 => r rv H2 z2 ⟨putS x o kd, ?_, a2⟩⟩
        · have := kid_depth (List.mem_of_getElem? hkd)
          omega
        · rw [List.getElem?_map, hkd]
          rfl
      · intro acc H6 s6 hl al hb
        have hsays : SaysAt H6 (s.kids.map (putS x o)) acc := says_of (by rw [List.length_map, al, says4.length]) hb
        walk_at "rd"
        refine ⟨D5, _, rfl, .inl ⟨sqL hl, fun p7 n7 => ?_⟩⟩
        have s7 := Same.new n7 (.tup acc)
        have h7 : (upd H6 p7 (.tup acc)) p7 = some (.tup acc) := upd_same
        have s27 := (s24.trans s6).trans s7
        have says7 := hsays.keep (Tk.of s7)
        walk_at "rd"
        refine rd_ixT (s27.seqT (sqT hp)) (atI_nat (j := 0) rfl) ?_
        walk_at "rd"
        refine ⟨by show 1 ≤ sizeLine; decide, fun p2 n2 => ?_⟩
        have s9 := Same.new n2 (.tup [V.str s.head])
        have s29 := s27.trans s9
        have says9 := says7.keep (Tk.of s9)
        walk_at "rd"
        refine ⟨p2, p7, [V.str s.head], acc, rfl, rfl, sqT upd_same, sqT (s9 _ _ h7), List.cons_ne_nil _ _, by rw [sizeLine_eq]; show 1 + acc.length ≤ _; omega, fun e => ?_, fun _ p8 n8 => ?_⟩
        · subst e
          refine q _ _ s29 (say_of_kids (items := []) pu ?_ ?_)
          · rw [ph]
            exact upd_same
          · rw [pk]
            exact says9
        · have s8 := Same.new n8 (.tup ([V.str s.head] ++ acc))
          refine q _ _ (s29.trans s8) (say_of_kids (items := acc) pu ?_ ?_)
          · rw [ph]
            exact upd_same
          · rw [pk]
            exact says9.keep (Tk.of s8)
end

/-! ### put_for and used_times -/
def useS (s : Say) : Nat → Say
  | 0 => .yes
  | 1 => s
  | n + 2 => .bin .times s (useS s (n + 1))
def Told2 (C : Addr) (H : Hp) (E : XK) (z : Str) : Prop := ∀ (d : Addr) (H' : Hp), Same H H' → H' d = some (.xd [("what", .str z)]) → E (.ref C) (some d) H'
def spPutFor (C : Addr) : Sp := fun vs H Q E => ∃ (s o : Say) (v u : V) (x : Str), vs = [v, .str x, u] ∧ SayAt H s v ∧ SayAt H o u ∧ s.words ≤ 900 ∧ s.depth ≤ 60 ∧ o.words ≤ 900 ∧
  ((putS x o s).words ≤ 1000 → (putS x o s).depth ≤ 60 → ∀ (r : V) (H' : Hp), Same H H' → SayAt H' (putS x o s) r → Q r H') ∧
  ((putS x o s).words > 1000 → Told2 C H E "words") ∧ ((putS x o s).words ≤ 1000 → (putS x o s).depth > 60 → Told2 C H E "depth")
def spUsed (C : Addr) : Sp := fun vs H Q E => ∃ (s : Say) (v : V) (n : Nat), vs = [v, .int (n : Int)] ∧ SayAt H s v ∧ s.words ≤ 900 ∧ s.depth ≤ 60 ∧ n ≤ 10 ^ 12 ∧
  ((n = 0 ∨ (n * (s.words + 1) ≤ 1001 ∧ s.depth + n ≤ 61)) → ∀ (r : V) (H' : Hp), Same H H' → SayAt H' (useS s n) r → Q r H') ∧
  (0 < n → n * (s.words + 1) > 1001 → Told2 C H E "words") ∧ (0 < n → n * (s.words + 1) ≤ 1001 → s.depth + n > 61 → Told2 C H E "depth")
theorem occ_le (x : Str) : ∀ s : Say, occS x s ≤ s.words
  | .unk y => by
    show (if y = x then 1 else 0) ≤ 1
    split <;> decide
  | .yes => Nat.zero_le _
  | .no => Nat.zero_le _
  | .not a => Nat.le_trans (occ_le x a) (Nat.le_succ _)
  | .bin k a b => by
    have h1 := occ_le x a
    have h2 := occ_le x b
    show occS x a + occS x b ≤ a.words + b.words + 1
    omega
section
variable {P : Program} {w : World} {K : PySem.W.Frag} {mg : Str → Option Value} {base : Heap}
theorem sc_TooGreat_init : SupScope ["self", "what"] ["self", "what"] (defScope s_TooGreat_init) := ⟨rfl, rfl, rfl, by decide +kernel, rfl, by decide +kernel, by decide +kernel, by decide +kernel, rfl, rfl⟩
theorem ok_TooGreat_init (T : Txt P K mg) {k : Nat} : FnOk P w K mg base CX0 (k + 1) T.f_TooGreat_init T.d_TooGreat_init ["self", "what"] (spInitX T.C_TooGreat "what") := by
  refine sup_ok T.F_TooGreat_init sc_TooGreat_init T.o_TooGreat T.S_TooGreat T.z_super (fun vs H Q E h => ?_) rfl rfl rfl rfl (fun cc cda A outer s H vs Q E h => ?_)
  · obtain ⟨a, v, rfl, _⟩ := h
    rfl
  obtain ⟨a, v, rfl, e, q⟩ := h
  refine ⟨a, _, _, _, rfl, e, pa_cons pe_str pa_nil, pss_one (ps_ost (pv 0) (pv 1)), ?_, rfl, rfl, rfl, rfl, rfl⟩
  walk_at "rd"
  refine ⟨by show 1 ≤ 1000; decide, e, ?_⟩
  refine rd_ost ?_
  walk_at "rd"
  exact ⟨a, T.C_TooGreat, rfl, T.o_TooGreat, T.n_TooGreat_what, .inl ⟨e, fun dx nd ne => q dx nd ne⟩⟩
theorem sc_put_for : FnScope ["saying", "name", "other", "times", "changed"] ["saying", "name", "other"] (defScope s_put_for) := ⟨rfl, rfl, rfl, by decide +kernel, rfl, by decide +kernel, by decide +kernel⟩
theorem ok_put_for (T : Txt P K mg) {k : Nat} : FnOk P w K mg base (L2.CX P w) (k + 110) T.f_put_for T.d_put_for ["saying", "name", "other"] (spPutFor T.C_TooGreat) := by
  refine T.F_put_for.okX sc_put_for (fun vs H Q E h => ?_) (fun cdv A outer s H vs Q E hr h => ?_)
  · obtain ⟨s, o, v, u, x, rfl, _⟩ := h
    rfl
  obtain ⟨s, o, v, u, x, rfl, hs, ho, w1, d1, w2, q1, q2, q3⟩ := h
  refine ⟨_, (pss_cons (ps_set (i := 3) sc_put_for.nd rfl (Or.inl rfl) (pe_call (ok_occurrences T) hr (by rfl) T.g_occurrences T.F_occurrences.kp T.b_occurrences .nil pass0 (pa_cons (pv 0) (pa_cons (pv 1) pa_nil))))
    (pss_cons (ps_if (pt_cmpR op_eq (pv 3) pe_int (by rfl)) (pss_one (ps_ret (pv 0))) pss_nil)
    (pss_cons (ps_if (pt_cmpR op_gt (pe_op op_add (pe_call (ok_words_in T) hr (by rfl) T.g_words_in T.F_words_in.kp T.b_words_in .nil pass0 (pa_cons (pv 0) pa_nil)) (pe_op op_mulB (pv 3) (pe_op op_sub (pe_call (ok_words_in T) hr (by rfl) T.g_words_in T.F_words_in.kp T.b_words_in .nil pass0 (pa_cons (pv 2) pa_nil)) pe_int))) (pe_glob rfl T.c_MOST_WORDS T.r_MOST_WORDS) (by rfl)) (pss_one (ps_raise rfl (takes_of rfl rfl rfl rfl) (pmk_oex T.o_TooGreat T.i_TooGreat T.t_TooGreat (ok_TooGreat_init T) hr T.b_TooGreat_init .nil pass0 (by rfl) T.m_TooGreat (pa_cons pe_str pa_nil)))) pss_nil)
    (pss_cons (ps_set (i := 4) sc_put_for.nd rfl (Or.inl rfl) (pe_call (ok_changed T 100) hr (by rfl) T.g_changed T.F_changed.kp T.b_changed .nil pass0 (pa_cons (pv 0) (pa_cons (pv 1) (pa_cons (pv 2) pa_nil)))))
    (pss_cons (ps_if (pt_cmpR op_gt (pe_call (ok_depth_of T) hr (by rfl) T.g_depth_of T.F_depth_of.kp T.b_depth_of .nil pass0 (pa_cons (pv 4) pa_nil)) (pe_glob rfl T.c_MOST_DEPTH T.r_MOST_DEPTH) (by rfl)) (pss_one (ps_raise rfl (takes_of rfl rfl rfl rfl) (pmk_oex T.o_TooGreat T.i_TooGreat T.t_TooGreat (ok_TooGreat_init T) hr T.b_TooGreat_init .nil pass0 (by rfl) T.m_TooGreat (pa_cons pe_str pa_nil)))) pss_nil)
    (pss_one (ps_ret (pv 4)))))))), ?_⟩
  try dsimp only [L2.cxOf, L2.Cx.nox]
  have oc := occ_le x s
  have pw := put_words x o s
  have op := words_pos o
  have pn := put_none x o s
  walk_at "rd"
  refine ⟨s, v, x, rfl, hs, by omega, fun H1 s1 => ?_⟩
  rw [occ_all]
  generalize hN : putS x o s = N at q1 q2 q3 pw pn
  generalize hn : occS x s = n at oc pw pn
  walk_at "rd"
  refine rd_ints (fun e => ?_) (fun e => ?_)
  · have n0 : n = 0 := by omega
    have e2 := pn n0
    subst e2
    walk_at "rd"
    exact q1 (by omega) d1 v H1 s1 (hs.keep (Tk.of s1))
  · walk_at "rd"
    refine ⟨s, v, rfl, hs.keep (Tk.of s1), by omega, fun H2 s2 => ?_⟩
    have s12 := s1.trans s2
    walk_at "rd"
    refine ⟨o, u, rfl, ho.keep (Tk.of s12), by omega, fun H3 s3 => ?_⟩
    have s13 := s12.trans s3
    walk_at "rd"
    refine rd_i (mulB_ok (Nat.lt_of_le_of_lt (show ((n : Nat) : Int).natAbs ≤ 900 by omega) (by decide)) (Nat.lt_of_le_of_lt (show ((o.words : Int) - 1).natAbs ≤ 900 by omega) (by decide))) ?_
    have key : (s.words : Int) + (n : Int) * ((o.words : Int) - 1) = (N.words : Int) := by
      have : ((n * o.words : Nat) : Int) = (n : Int) * (o.words : Int) := Int.natCast_mul _ _
      rw [Int.mul_sub, Int.mul_one]
      omega
    walk_at "rd"
    rw [key]
    refine rd_two (fun c => ?_) (fun c => ?_)
    · walk_at "rd"
      refine rd_mko ?_
      walk_at "rd"
      exact rd_raise fun d H4 s4 _ h4 => q2 (by omega) d H4 (s13.trans s4) h4
    · walk_at "rd"
      refine ⟨s, o, v, u, x, rfl, hs.keep (Tk.of s13), ho.keep (Tk.of s13), by omega, fun r H4 s4 a4 => ?_⟩
      rw [hN] at a4
      have s14 := s13.trans s4
      walk_at "rd"
      refine ⟨N, r, rfl, a4, by omega, fun H5 s5 => ?_⟩
      have s15 := s14.trans s5
      walk_at "rd"
      refine rd_two (fun c2 => ?_) (fun c2 => ?_)
      · walk_at "rd"
        refine rd_mko ?_
        walk_at "rd"
        exact rd_raise fun d H6 s6 _ h6 => q3 (by omega) (by omega) d H6 (s15.trans s6) h6
      · walk_at "rd"
        exact q1 (by omega) (by omega) r H5 s15 (a4.keep (Tk.of s5))
theorem sc_used_times : FnScope ["saying", "count", "used", "_"] ["saying", "count"] (defScope s_used_times) := ⟨rfl, rfl, rfl, by decide +kernel, rfl, by decide +kernel, by decide +kernel⟩
theorem ok_used_times (T : Txt P K mg) {k : Nat} : FnOk P w K mg base (L2.CX P w) (k + 110) T.f_used_times T.d_used_times ["saying", "count"] (spUsed T.C_TooGreat) := by
  refine T.F_used_times.okX sc_used_times (fun vs H Q E h => ?_) (fun cdv A outer s H vs Q E hr h => ?_)
  · obtain ⟨s, v, n, rfl, _⟩ := h
    rfl
  obtain ⟨s, v, n, rfl, hs, w1, d1, n1, q1, q2, q3⟩ := h
  refine ⟨_, (pss_cons (ps_if (pt_cmpR op_eq (pv 1) pe_int (by rfl)) (pss_one (ps_ret (pe_tup (pa_cons pe_str pa_nil)))) pss_nil)
    (pss_cons (ps_if (pt_cmpR op_eq (pv 1) pe_int (by rfl)) (pss_one (ps_ret (pv 0))) pss_nil)
    (pss_cons (ps_if (pt_cmpR op_gt (pe_op op_sub (pe_op op_add (pe_op op_mulB (pv 1) (pe_call (ok_words_in T) hr (by rfl) T.g_words_in T.F_words_in.kp T.b_words_in .nil pass0 (pa_cons (pv 0) pa_nil))) (pv 1)) pe_int) (pe_glob rfl T.c_MOST_WORDS T.r_MOST_WORDS) (by rfl)) (pss_one (ps_raise rfl (takes_of rfl rfl rfl rfl) (pmk_oex T.o_TooGreat T.i_TooGreat T.t_TooGreat (ok_TooGreat_init T) hr T.b_TooGreat_init .nil pass0 (by rfl) T.m_TooGreat (pa_cons pe_str pa_nil)))) pss_nil)
    (pss_cons (ps_if (pt_cmpR op_gt (pe_op op_sub (pe_op op_add (pe_call (ok_depth_of T) hr (by rfl) T.g_depth_of T.F_depth_of.kp T.b_depth_of .nil pass0 (pa_cons (pv 0) pa_nil)) (pv 1)) pe_int) (pe_glob rfl T.c_MOST_DEPTH T.r_MOST_DEPTH) (by rfl)) (pss_one (ps_raise rfl (takes_of rfl rfl rfl rfl) (pmk_oex T.o_TooGreat T.i_TooGreat T.t_TooGreat (ok_TooGreat_init T) hr T.b_TooGreat_init .nil pass0 (by rfl) T.m_TooGreat (pa_cons pe_str pa_nil)))) pss_nil)
    (pss_cons (ps_set (i := 2) sc_used_times.nd rfl (Or.inl rfl) (pv 0))
    (pss_cons (ps_for (passes_of rfl) rfl (pi_range1 rfl T.z_range (pa_cons (pe_op op_sub (pv 1) pe_int) pa_nil)) (pg_name (i := 3) sc_used_times.nd rfl (Or.inl rfl)) (pss_one (ps_set (i := 2) sc_used_times.nd rfl (Or.inl rfl) (pe_tup (pa_cons pe_str (pa_cons (pv 0) (pa_cons (pv 2) pa_nil)))))))
    (pss_one (ps_ret (pv 2))))))))), ?_⟩
  try dsimp only [L2.cxOf, L2.Cx.nox]
  have wp := words_pos s
  walk_at "rd"
  refine rd_ints (fun e => ?_) (fun e => ?_)
  · have n0 : n = 0 := by omega
    subst n0
    walk_at "rd"
    refine ⟨by show 1 ≤ sizeLine; decide, fun p np => ?_⟩
    exact q1 (.inl rfl) _ _ (Same.new np _) ⟨p, rfl, upd_same⟩
  walk_at "rd"
  refine rd_ints (fun e2 => ?_) (fun e2 => ?_)
  · have n1 : n = 1 := by omega
    subst n1
    walk_at "rd"
    exact q1 (.inr ⟨by omega, by omega⟩) v H (Same.refl _) hs
  walk_at "rd"
  refine ⟨s, v, rfl, hs, by omega, fun H1 s1 => ?_⟩
  walk_at "rd"
  refine rd_i (mulB_ok (Nat.lt_of_le_of_lt (show ((n : Nat) : Int).natAbs ≤ 10 ^ 12 by omega) (by decide)) (Nat.lt_of_le_of_lt (show ((s.words : Nat) : Int).natAbs ≤ 900 by omega) (by decide))) ?_
  have key : (n : Int) * (s.words : Int) + (n : Int) - 1 = ((n * (s.words + 1) : Nat) : Int) - 1 := by
    rw [Nat.mul_add, Nat.mul_one, Int.natCast_add, Int.natCast_mul]
  walk_at "rd"
  rw [key]
  refine rd_two (fun c => ?_) (fun c => ?_)
  · walk_at "rd"
    refine rd_mko ?_
    walk_at "rd"
    exact rd_raise fun d H4 s4 _ h4 => q2 (by omega) (by omega) d H4 (s1.trans s4) h4
  walk_at "rd"
  refine ⟨s, v, rfl, hs.keep (Tk.of s1), by omega, fun H2 s2 => ?_⟩
  have s12 := s1.trans s2
  walk_at "rd"
  refine rd_two (fun c2 => ?_) (fun c2 => ?_)
  · walk_at "rd"
    refine rd_mko ?_
    walk_at "rd"
    exact rd_raise fun d H4 s4 _ h4 => q3 (by omega) (by omega) (by omega) d H4 (s12.trans s4) h4
  walk_at "rd"
  have hs2 := hs.keep (Tk.of s12)
  have sz : ((n : Int) - 1).toNat = n - 1 := by omega
  refine rd_atR (by omega) (by omega) (forR (n := ((n : Int) - 1).toNat) (lo := 0) (fun i σ H' => ∃ (r : V) (y : Option V), σ = [some v, some (.int (n : Int)), some r, y] ∧ Same H2 H' ∧ SayAt H' (useS s (i + 1)) r) ⟨v, none, rfl, Same.refl _, hs2⟩ ?_ ?_)
  · rintro i σ H' hi ⟨r, y, rfl, z, a⟩
    walk_at "rd"
    refine ⟨by show 3 ≤ sizeLine; decide, fun p np => ?_⟩
    have s3 := Same.new np (.tup [V.str (Str.ofString "times"), v, r])
    refine ⟨.ref p, _, rfl, z.trans s3, ?_⟩
    exact ⟨p, v, r, rfl, upd_same, hs2.keep (Tk.of (z.trans s3)), a.keep (Tk.of s3)⟩
  · rintro σ H' ⟨r, y, rfl, z, a⟩
    rw [sz, show n - 1 + 1 = n by omega] at a
    walk_at "rd"
    exact q1 (.inr ⟨by omega, by omega⟩) r H' (s12.trans z) a
end

/-! ### told, or what was raised -/
section
variable {P : Program} {w : World} {K : PySem.W.Frag} {mg : Str → Option Value} {base : Heap}
theorem sc_law_outcome : FnScope ["call", "found", "error"] ["call"] (defScope s_law_outcome) := ⟨rfl, rfl, rfl, by decide +kernel, rfl, by decide +kernel, by decide +kernel⟩
def outs (T : Txt P K mg) : List (Addr × Str × Str) := [(T.C_TooGreat, "great", "what")]
theorem gives_outcome {X : Cx} {K : PySem.W.Frag} {mg : Str → Option Value} (T : Txt P K mg) (hK : X.K = K) (hmg : X.mg = mg) (q : Str) (cdv : Value) : LamX.GivesTo X ["call", "found", "error"] "_law_outcome" (defScope s_law_outcome) T.f_law_outcome cdv (defBody s_law_outcome) "call" q (TOut K (outs T)) := by
  subst hK hmg
  intro f c' s H Q tl act hc h
  refine ⟨_, pss_cons (ps_tryN (X := (cxOf C8.CX0 X.prog X.w X.K X.mg X.base ["call", "found", "error"] "_law_outcome" (defScope s_law_outcome) T.f_law_outcome cdv X.A X.stack s H C8.E0).nox)
    (rb := fun W D σ H => ∃ Ech : XK, (∀ cls d σ' H', σ'.length = 3 → Ech cls d H' → W cls d σ' H') ∧ σ[0]? = some (some (.ref f)) ∧ H c' = some (LamX.CodeO c' q) ∧ tl Ech H (fun v H1 => ([V.str "told", v] : List V).length ≤ sizeLine ∧ ∀ p, H1 p = none → D.nx (σ.set 1 (some (.ref p))) (upd H1 p (.tup [.str "told", v]))))
    rfl rfl sc_law_outcome.nd LamX.takes0 (fun W pn xe tk po => ?_) (NamOk.cons (j := 2) ⟨by rfl, by decide, .inl T.m_TooGreat⟩ rfl rfl (fun a oe cls d pn hz hf => pss_one (ps_set (i := 1) sc_law_outcome.nd rfl (Or.inl rfl) (pe_tup (pa_cons pe_str (pa_cons (pe_xf T.x_TooGreat T.n_TooGreat_what hz hf (pv 2)) pa_nil))))) NamOk.nil)) (pss_one (ps_ret (pv 1))), ?_⟩
  · refine ⟨fun pins s' σ H' D I h' => ?_⟩
    obtain ⟨Ech, hW, h1, h2, h3⟩ := h'
    have hp := fun z1 z2 => act _ pn xe Ech z1 z2 (takes_len tk) fun cls d σ' H' e hl => hW cls d σ' H' hl e
    exact (pss_one (ps_set (i := 1) sc_law_outcome.nd rfl (Or.inl rfl) (pe_tup (pa_cons pe_str (pa_cons (hp _ _) pa_nil))))).run pins s' σ H' D I ⟨h1, h2, h3⟩

  · refine ⟨wOut X.K Q (outs T), fun cls d σ' H' hl hw => ?_, rfl, hc, h⟩
    obtain ⟨x0, x1, x2, rfl⟩ : ∃ x0 x1 x2, σ' = [x0, x1, x2] := by
      match σ', hl with
      | [x0, x1, x2], _ => exact ⟨x0, x1, x2, rfl⟩
    obtain ⟨b, e1, y1, n1⟩ := hw
    refine ⟨b, e1, fun hb e ne => ?_, fun hb => (n1 hb).elim⟩
    obtain ⟨rfl, dd, fs, v, rfl, hd, hv, hq⟩ := y1 hb
    walk_at "rd"
    refine rd_xf ?_
    walk_at "rd"
    refine ⟨rfl, rfl, dd, fs, v, rfl, hd, hv, ?_⟩
    walk_at "rd"
    refine ⟨by show 2 ≤ sizeLine; decide, fun p np => ?_⟩
    walk_at "rd"
    exact hq p np
end

/-! ### what is beyond the bounds; the other saying -/
def spFar : Sp := fun vs H Q _ => ∃ (a b : Int), vs = [.int a, .int b] ∧ (a > 1000 → Q (.str "words") H) ∧ (¬ a > 1000 → b > 60 → Q (.str "depth") H) ∧ (¬ a > 1000 → ¬ b > 60 → Q .non H)
def spOther : Sp := fun vs H Q _ => ∃ (m : Addr) (c : Nat), vs = [.ref m] ∧ MAt H m c ∧ c ≤ 800000 ∧
  ∀ (s : Say) (v : V) (H' : Hp), Kp m H H' → MAt H' m (c + 100) → SayAt H' s v → (∀ x ∈ s.leaves, x ∈ (["x", "y", "z"] : List Str)) → s.depth ≤ 60 → s.words ≤ 800 → Q v H'
section
variable {P : Program} {w : World} {K : PySem.W.Frag} {mg : Str → Option Value} {base : Heap}
theorem sc_law_far : FnScope ["many", "deep"] ["many", "deep"] (defScope s_law_far) := ⟨rfl, rfl, rfl, by decide +kernel, rfl, by decide +kernel, by decide +kernel⟩
theorem ok_law_far (T : Txt P K mg) {k : Nat} : FnOk P w K mg base CX0 (k + 1) T.f_law_far T.d_law_far ["many", "deep"] spFar := by
  refine T.F_law_far.ok sc_law_far (fun vs H Q E h => ?_) (fun cdv A outer s H vs Q E hr h => ?_)
  · obtain ⟨a, b, rfl, _⟩ := h
    rfl
  obtain ⟨a, b, rfl, q1, q2, q3⟩ := h
  refine ⟨_, (pss_cons (ps_if (pt_cmpR op_gt (pv 0) pe_int (by rfl)) (pss_one (ps_ret pe_str)) pss_nil)
    (pss_one (ps_ret (pe_ifExp (pt_cmpR op_gt (pv 1) pe_int (by rfl)) pe_str pe_non)))), ?_⟩
  try dsimp only [L2.cxOf, L2.Cx.nox]
  walk_at "rd"
  refine rd_two (fun c => ?_) (fun c => ?_)
  · walk_at "rd"
    exact q1 c
  · walk_at "rd"
    refine rd_two (fun c2 => ?_) (fun c2 => ?_)
    · walk_at "rd"
      exact q2 c c2
    · walk_at "rd"
      exact q3 c c2
theorem sc_law_other : FnScope ["m", "way", "made", "turn"] ["m"] (defScope s_law_other) := ⟨rfl, rfl, rfl, by decide +kernel, rfl, by decide +kernel, by decide +kernel⟩
theorem ok_law_other (T : Txt P K mg) {k : Nat} : FnOk P w K mg base CX0 (k + 110) T.f_law_other T.d_law_other ["m"] spOther := by
  refine T.F_law_other.ok sc_law_other (fun vs H Q E h => ?_) (fun cdv A outer s H vs Q E hr h => ?_)
  · obtain ⟨m, c, rfl, _⟩ := h
    rfl
  obtain ⟨m, c, rfl, hm, hc, q⟩ := h
  refine ⟨_, (pss_cons (ps_set (i := 1) sc_law_other.nd rfl (Or.inl rfl) (pe_call (ok_law_draw T) hr (by rfl) T.g_law_draw T.F_law_draw.kp T.b_law_draw .nil pass0 (pa_cons (pv 0) (pa_cons pe_int pa_nil))))
    (pss_cons (ps_set (i := 2) sc_law_other.nd rfl (Or.inl rfl) (pe_call (ok_law_saying_n T 10) hr (by rfl) T.g_law_saying T.F_law_saying.kp T.b_law_saying .nil pass0 (pa_cons (pv 0) (pa_cons (pe_lst (pa_cons pe_str (pa_cons pe_str (pa_cons pe_str pa_nil)))) (pa_cons (pe_call (ok_law_of T) hr (by rfl) T.g_law_of T.F_law_of.kp T.b_law_of .nil pass0 (pa_cons (pv 0) (pa_cons (pe_lst (pa_cons pe_int (pa_cons pe_int (pa_cons pe_int pa_nil)))) pa_nil))) pa_nil)))))
    (Evl.pss_cut (ps_if (pt_cmpR op_eq (pv 1) pe_int (by rfl)) (pss_one (ps_for PassesOwn.never rfl (pi_range1 rfl T.z_range (pa_cons (pe_call (ok_law_draw T) hr (by rfl) T.g_law_draw T.F_law_draw.kp T.b_law_draw .nil pass0 (pa_cons (pv 0) (pa_cons (pe_op op_sub pe_int (pe_ix (ix_tupK K) (pe_call (ok_law_size T 100) hr (by rfl) T.g_law_size T.F_law_size.kp T.b_law_size .nil pass0 (pa_cons (pv 2) (pa_cons pe_str (pa_cons pe_int (pa_cons pe_int pa_nil))))) pe_int (fun _ _ => rfl))) pa_nil))) pa_nil)) (pg_name (i := 3) sc_law_other.nd rfl (Or.inl rfl)) (pss_one (ps_set (i := 2) sc_law_other.nd rfl (Or.inl rfl) (pe_tup (pa_cons pe_str (pa_cons (pv 2) pa_nil))))))) pss_nil)
    (pss_cons (ps_if (pt_cmpR op_eq (pv 1) pe_int (by rfl)) (pss_one (ps_for PassesOwn.never rfl (pi_range1 rfl T.z_range (pa_cons (pe_call (ok_law_draw T) hr (by rfl) T.g_law_draw T.F_law_draw.kp T.b_law_draw .nil pass0 (pa_cons (pv 0) (pa_cons pe_int pa_nil))) pa_nil)) (pg_name (i := 3) sc_law_other.nd rfl (Or.inl rfl)) (pss_one (ps_set (i := 2) sc_law_other.nd rfl (Or.inl rfl) (pe_tup (pa_cons (pe_call (ok_law_of T) hr (by rfl) T.g_law_of T.F_law_of.kp T.b_law_of .nil pass0 (pa_cons (pv 0) (pa_cons (pe_lst (pa_cons pe_str (pa_cons pe_str (pa_cons pe_str pa_nil)))) pa_nil))) (pa_cons (pv 2) (pa_cons (pv 2) pa_nil)))))))) pss_nil)
    (pss_one (ps_ret (pv 2))))))), ?_⟩
  try dsimp only [L2.cxOf, L2.Cx.nox]
  walk_at "rd"
  refine ⟨m, c, 4, rfl, hm, by omega, by decide, by decide, fun way H1 w0 w1 k1 m1 => ?_⟩
  walk_at "rd"
  refine ⟨by show 3 ≤ sizeLine; decide, fun p2 n2 => ?_⟩
  have s2 := Same.new n2 (.lst ((["x", "y", "z"] : List Str).map V.str))
  have g2 : (upd H1 p2 (.lst ((["x", "y", "z"] : List Str).map V.str))) p2 = some (.lst ((["x", "y", "z"] : List Str).map V.str)) := upd_same
  have m2 := m1.same s2
  walk_at "rd"
  refine ⟨by show 3 ≤ sizeLine; decide, fun p3 n3 => ?_⟩
  have s3 := Same.new n3 (.lst [V.int 0, V.int 1, V.int 3])
  have m3 := m2.same s3
  walk_at "rd"
  refine ⟨m, p3, _, _, rfl, m3, by omega, upd_same, List.cons_ne_nil _ _, by show 3 ≤ 1000; decide, fun v H4 hv k4 m4 => ?_⟩
  obtain ⟨size, rfl, hsz⟩ : ∃ size : Nat, v = .int (size : Int) ∧ size ≤ 3 := by
    simp only [List.mem_cons, List.not_mem_nil, or_false] at hv
    rcases hv with rfl | rfl | rfl
    · exact ⟨0, rfl, by decide⟩
    · exact ⟨1, rfl, by decide⟩
    · exact ⟨3, rfl, by decide⟩
  have g4 := m3.lst k4 (s3 _ _ g2)
  have k04 : Kp m H H4 := ((k1.trans (Kp.of s2)).trans (Kp.of s3)).trans k4
  walk_at "rd"
  refine ⟨m, p2, _, size, _, rfl, m4, by omega, g4, List.cons_ne_nil _ _, by show 3 ≤ 100; decide, by omega, fun s v H5 k5 m5 hs hle hmk hdp hwd => ?_⟩
  have k05 := k04.trans k5
  have m5 : MAt H5 m (c + 80) := m5.mono (by omega)
  clear hmk g4 g2 s2 s3 m2 m3 m4 k04
  walk_at "rd"
  refine Evl.q_cut (M := fun σ2 H6 => ∃ (s : Say) (v : V) (y3 : Option V), σ2 = [some (.ref m), some (.int way), some v, y3] ∧ Kp m H H6 ∧ MAt H6 m (c + 81) ∧ SayAt H6 s v ∧ (∀ x ∈ s.leaves, x ∈ (["x", "y", "z"] : List Str)) ∧ (way = 3 → s.depth ≤ 7 ∧ s.words ≤ 14) ∧ s.depth ≤ 60 ∧ s.words ≤ 80) ?_ ?_
  · walk_at "rd"
    refine rd_ints (fun z => ?_) (fun z => ?_)
    · walk_at "rd"
      refine ⟨s, v, "", 1, 0, rfl, hs, by omega, fun p6 H6 s6 h6 => ?_⟩
      rw [sz_one] at h6
      have m6 := m5.same s6
      walk_at "rd"
      refine rd_ixT (sqT h6) (atI_nat (j := 1) rfl) ?_
      walk_at "rd"
      refine ⟨m, _, _, rfl, m6, by omega, by omega, Int.lt_of_le_of_lt (show (61 : Int) - (s.depth : Int) ≤ 61 by omega) (by decide), fun r H7 r0 r1 k7 m7 => ?_⟩
      obtain ⟨rn, rfl⟩ : ∃ rn : Nat, r = (rn : Int) := ⟨r.toNat, by omega⟩
      have hs7 := (hs.keep (Tk.of s6)).keep (by obtain ⟨kk, hk⟩ := m6.dict; exact Tk.kp k7 hk)
      have k07 := k05.trans ((Kp.of s6).trans k7)
      walk_at "rd"
      have sz : ((rn : Nat) : Int).toNat = rn := rfl
      refine rd_atR (by omega) (by omega) (forR (n := ((rn : Nat) : Int).toNat) (lo := 0) (fun i σ H' => ∃ (t : Say) (u : V) (y3 : Option V), σ = [some (.ref m), some (.int way), some u, y3] ∧ Same H7 H' ∧ SayAt H' t u ∧ t.leaves = s.leaves ∧ t.depth = s.depth + i ∧ t.words = s.words + i) ⟨s, v, _, rfl, Same.refl _, hs7, rfl, rfl, rfl⟩ ?_ ?_)
      · rintro i σ H' hi ⟨t, u, y3, rfl, z2, a, e1, e2, e3⟩
        walk_at "rd"
        refine ⟨by show 2 ≤ sizeLine; decide, fun p np => ?_⟩
        have s8 := Same.new np (.tup [V.str (Str.ofString "not"), u])
        exact ⟨.not t, .ref p, _, rfl, z2.trans s8, ⟨p, u, rfl, upd_same, a.keep (Tk.of s8)⟩, e1, by show t.depth + 1 = _; omega, by show t.words + 1 = _; omega⟩
      · rintro σ H' ⟨t, u, y3, rfl, z2, a, e1, e2, e3⟩
        rw [sz] at e2 e3
        refine ⟨t, u, y3, rfl, k07.trans (Kp.of z2), (m7.same z2).mono (by omega), a, by rw [e1]; exact hle, fun y => by omega, by omega, by omega⟩
    · walk_at "rd"
      exact ⟨s, v, _, rfl, k05, m5.mono (by omega), hs, hle, fun _ => ⟨by omega, by omega⟩, by omega, by omega⟩
  clear hs hle hdp hwd k05 m5 s v
  rintro σ2 H6 ⟨s, v, y3, rfl, k6, m6, hs, hle, h3, hd, hw⟩
  walk_at "rd"
  refine rd_ints (fun z => ?_) (fun z => ?_)
  · obtain ⟨d7, w14⟩ := h3 z
    walk_at "rd"
    refine ⟨m, _, 5, rfl, m6, by omega, by decide, by decide, fun r H7 r0 r1 k7 m7 => ?_⟩
    obtain ⟨rn, rfl⟩ : ∃ rn : Nat, r = (rn : Int) := ⟨r.toNat, by omega⟩
    have hs7 := hs.keep (by obtain ⟨kk, hk⟩ := m6.dict; exact Tk.kp k7 hk)
    have k07 := k6.trans k7
    walk_at "rd"
    have sz : ((rn : Nat) : Int).toNat = rn := rfl
    refine rd_atR (by omega) (by omega) (forR (n := ((rn : Nat) : Int).toNat) (lo := 0) (fun i σ H' => ∃ (t : Say) (u : V) (y3 : Option V), σ = [some (.ref m), some (.int way), some u, y3] ∧ Kp m H H' ∧ MAt H' m (c + 82 + i) ∧ SayAt H' t u ∧ (∀ x ∈ t.leaves, x ∈ (["x", "y", "z"] : List Str)) ∧ t.depth ≤ 7 + i ∧ t.words + 1 ≤ 15 * 2 ^ i) ⟨s, v, _, rfl, k07, m7, hs7, hle, by omega, by omega⟩ ?_ ?_)
    · rintro i σ H' hi ⟨t, u, y3, rfl, z2, mt, a, e1, e2, e3⟩
      rw [sz] at hi
      walk_at "rd"
      refine ⟨by show 3 ≤ sizeLine; decide, fun p np => ?_⟩
      have s8 := Same.new np (.lst [V.str (Str.ofString "plus"), V.str (Str.ofString "and"), V.str (Str.ofString "leads")])
      walk_at "rd"
      refine ⟨m, p, _, _, rfl, mt.same s8, by omega, upd_same, List.cons_ne_nil _ _, by show 3 ≤ 1000; decide, fun mv H9 hv k9 m9 => ?_⟩
      obtain ⟨kd, rfl⟩ : ∃ kd : Mk6, mv = .str kd.str := by
        simp only [List.mem_cons, List.not_mem_nil, or_false] at hv
        rcases hv with rfl | rfl | rfl
        · exact ⟨.plus, rfl⟩
        · exact ⟨.and, rfl⟩
        · exact ⟨.leads, rfl⟩
      have a9 := (a.keep (Tk.of s8)).keep (by obtain ⟨kk, hk⟩ := (mt.same s8).dict; exact Tk.kp k9 hk)
      walk_at "rd"
      refine ⟨by show 3 ≤ sizeLine; decide, fun p3 n3 => ?_⟩
      have s10 := Same.new n3 (.tup [V.str kd.str, u, u])
      have a10 := a9.keep (Tk.of s10)
      refine ⟨.bin kd t t, .ref p3, _, rfl, (z2.trans ((Kp.of s8).trans k9)).trans (Kp.of s10), (m9.same s10).mono (by omega), ⟨p3, u, u, rfl, upd_same, a10, a10⟩, ?_, ?_, ?_⟩
      · intro x hx
        rcases List.mem_append.mp hx with hx | hx
        · exact e1 x hx
        · exact e1 x hx
      · show max t.depth t.depth + 1 ≤ 7 + (i + 1)
        omega
      · show t.words + t.words + 1 + 1 ≤ 15 * 2 ^ (i + 1)
        rw [Nat.pow_succ]
        omega
    · rintro σ H' ⟨t, u, y3, rfl, z2, mt, a, e1, e2, e3⟩
      rw [sz] at mt e2 e3
      have p4 : 2 ^ rn ≤ 2 ^ 4 := Nat.pow_le_pow_right (by decide) (by omega)
      walk_at "rd"
      exact q t u H' z2 (mt.mono (by omega)) a e1 (by omega) (by omega)
  · walk_at "rd"
    exact q s v H6 k6 (m6.mono (by omega)) hs hle hd (by omega)
end

/-! ### a value in the place of a saying -/
theorem put_leaves (x : Str) (o : Say) : ∀ (s : Say) (y : Str), y ∈ (putS x o s).leaves → y ∈ s.leaves ∨ y ∈ o.leaves
  | .unk z, y, h => by
    have h : y ∈ (if z = x then o else Say.unk z).leaves := h
    by_cases c : z = x
    · rw [if_pos c] at h
      exact .inr h
    · rw [if_neg c] at h
      exact .inl h
  | .yes, y, h => .inl h
  | .no, y, h => .inl h
  | .not a, y, h => put_leaves x o a y h
  | .bin k a b, y, h => by
    rcases List.mem_append.mp h with h | h
    · exact (put_leaves x o a y h).elim (fun z => .inl (List.mem_append_left _ z)) .inr
    · exact (put_leaves x o b y h).elim (fun z => .inl (List.mem_append_right _ z)) .inr
theorem vSay_put (f : Str → Int) (D : Int) (x : Str) (o : Say) : ∀ s : Say, vSay f D (putS x o s) = vSay (fun y => if y = x then vSay f D o else f y) D s
  | .unk y => by
    show vSay f D (if y = x then o else Say.unk y) = if y = x then vSay f D o else f y
    by_cases c : y = x
    · rw [if_pos c, if_pos c]
    · rw [if_neg c, if_neg c]
      rfl
  | .yes => rfl
  | .no => rfl
  | .not a => by
    show D - _ = D - _
    rw [vSay_put f D x o a]
  | .bin k a b => by
    show vMk D k _ _ = vMk D k _ _
    rw [vSay_put f D x o a, vSay_put f D x o b]
theorem den_dvd {ps : List (Int × Int)} (h : DenOk ps) : ∀ p ∈ ps, p.2 ∣ (cden ps : Int) := fun p hp => by
  have := cden_dvd (ps := ps) ps.length (Nat.le_refl _) p (by rw [List.take_length]; exact hp)
  rw [List.take_length] at this
  exact Int.natAbs_dvd.mp (Int.natCast_dvd_natCast.mpr this)
theorem val_scale {ns : List Str} {ps : List (Int × Int)} (pt : Pts ns ps) {t : Int} (t0 : 0 < t) (s : Say) (hin : ∀ x ∈ s.leaves, x ∈ ns) :
    vSay (fz (t * (cden ps : Int)) (ns.zip ps)) (t * (cden ps : Int)) s = t * vSay (fz (cden ps) (ns.zip ps)) (cden ps) s := by
  rw [vSay_congr (g := fun x => t * fz (cden ps) (ns.zip ps) x) _ s fun x hx => fz_mul pt (den_dvd pt.den) (hin x hx), vSay_mul t0]
def mvd (x : Str) (q : Int × Int) (ns : List Str) (ps : List (Int × Int)) : List (Int × Int) := (ns.zip ps).map fun z => if z.1 = x then q else z.2
theorem mvd_at {x : Str} {q : Int × Int} {ns : List Str} {ps : List (Int × Int)} {i : Nat} {n : Str} {p : Int × Int} (h1 : ns[i]? = some n) (h2 : ps[i]? = some p) : (mvd x q ns ps)[i]? = some (if n = x then q else p) := by
  unfold mvd
  have e : (ns.zip ps)[i]? = some (n, p) := List.getElem?_zip_eq_some.mpr ⟨h1, h2⟩
  rw [List.getElem?_map, e]
  rfl
theorem low_parts {v W : Int} (w0 : 0 < W) {u z : Int} (e : lowT v W = [u, z]) : ∃ g : Int, 0 < g ∧ v = g * u ∧ W = g * z ∧ 0 < z := by
  have g0 := gcd_pos (a := v) w0
  unfold lowT at e
  have e1 := (List.cons.inj e).1
  have e2 := (List.cons.inj (List.cons.inj e).2).1
  have h1 : W = (Int.gcd v W : Int) * z := by
    rw [← e2]
    exact (Int.mul_ediv_cancel' (Int.gcd_dvd_right ..)).symm
  refine ⟨(Int.gcd v W : Int), by omega, ?_, h1, ?_⟩
  · rw [← e1]
    exact (Int.mul_ediv_cancel' (Int.gcd_dvd_left ..)).symm
  · rcases Int.lt_or_le 0 z with c | c
    · exact c
    · have := Int.mul_nonpos_of_nonneg_of_nonpos (show 0 ≤ (Int.gcd v W : Int) by omega) c
      omega
theorem move_same {ns : List Str} {ps : List (Int × Int)} (pt : Pts ns ps) {x : Str} {u z : Int} {s o : Say} (hs : ∀ y ∈ s.leaves, y ∈ ns) (ho : ∀ y ∈ o.leaves, y ∈ ns) (e : lowT (vSay (fz (cden ps) (ns.zip ps)) (cden ps) o) (cden ps) = [u, z]) (pt2 : Pts ns (mvd x (u, z) ns ps)) :
    lowT (vSay (fz (cden ps) (ns.zip ps)) (cden ps) (putS x o s)) (cden ps) = lowT (vSay (fz (cden (mvd x (u, z) ns ps)) (ns.zip (mvd x (u, z) ns ps))) (cden (mvd x (u, z) ns ps)) s) (cden (mvd x (u, z) ns ps)) := by
  have c1 := (cden_small pt.den ps.length (Nat.le_refl _)).1
  have c2 := (cden_small pt2.den (mvd x (u, z) ns ps).length (Nat.le_refl _)).1
  rw [List.take_length] at c1 c2
  have hp : ∀ y ∈ (putS x o s).leaves, y ∈ ns := fun y hy => (put_leaves x o s y hy).elim (hs y) (ho y)
  have w0 : (0 : Int) < cden ps := by omega
  have w2 : (0 : Int) < cden (mvd x (u, z) ns ps) := by omega
  rw [← lowT_mul (t := (cden (mvd x (u, z) ns ps) : Int)) w2, ← lowT_mul (t := (cden ps : Int)) (a := vSay (fz (cden (mvd x (u, z) ns ps)) (ns.zip (mvd x (u, z) ns ps))) (cden (mvd x (u, z) ns ps)) s) w0, ← val_scale pt w2 _ hp, ← val_scale pt2 w0 s hs, vSay_put]
  have com : (cden ps : Int) * (cden (mvd x (u, z) ns ps) : Int) = (cden (mvd x (u, z) ns ps) : Int) * (cden ps : Int) := Int.mul_comm _ _
  rw [com]
  congr 1
  refine vSay_congr _ s fun y hy => ?_
  rw [val_scale pt w2 o ho]
  obtain ⟨i, hi, ey⟩ := List.getElem_of_mem (hs y hy)
  have h1 : ns[i]? = some y := by rw [List.getElem?_eq_getElem hi, ey]
  have hl : i < ps.length := by rw [← pt.len]; exact hi
  have h2 : ps[i]? = some ps[i] := List.getElem?_eq_getElem hl
  have h3 := mvd_at (x := x) (q := (u, z)) h1 h2
  have l1 := zip_look pt.nd h1 h2
  have l2 := zip_look pt2.nd h1 h3
  generalize cden (mvd x (u, z) ns ps) = W2 at *
  generalize hv : vSay (fz (cden ps) (ns.zip ps)) (cden ps) o = vv at e
  obtain ⟨g, g0, e1, e2, z0⟩ := low_parts w0 e
  show (if y = x then (W2 : Int) * vv else fz ((W2 : Int) * cden ps) (ns.zip ps) y) = fz ((W2 : Int) * cden ps) (ns.zip (mvd x (u, z) ns ps)) y
  by_cases c : y = x
  · rw [if_pos c]
    rw [if_pos c] at l2
    unfold fz
    rw [l2]
    show (W2 : Int) * vv = u * ((W2 : Int) * (cden ps : Int) / z)
    have e3 : (W2 : Int) * (cden ps : Int) / z = W2 * g := by
      rw [e2, ← Int.mul_assoc]
      exact Int.mul_ediv_cancel _ (by omega)
    rw [e3, e1, Int.mul_comm u, Int.mul_assoc]
  · rw [if_neg c]
    rw [if_neg c] at l2
    unfold fz
    rw [l1, l2]

/-! ### comprehensions that draw -/
theorem lcDraw {σ : L2.St} {H1 : Hp} {te : TE} {vs : List Nat} {j n : Nat} {J : It} {G : Hp → Prop} {Y : Nat → Hp → V → Hp → Prop} {Dl m : Addr} {Qd : Hp → Prop} (wk : Walk J n G Y) (step c : Nat) (A : List V → Hp → Prop)
    (hm : MAt H1 m c) (hD : H1 Dl = none) (hn : n ≤ 1000) (hy : ∀ i H x H', i < n → Y i H x H' → H' = H) (hG : ∀ H', Kp m H1 H' → G H')
    (hA : ∀ acc H' ys zs, H' Dl = some (.lst ys) → A acc H' → A acc (upd H' Dl (.lst zs))) (A0 : A [] (upd H1 Dl (.lst [])))
    (hw : ∀ x, wipe ((wipe σ vs).set j (some x)) vs = wipe σ vs)
    (he : ∀ i x acc H' (R : VK), i < n → acc.length = i → Kp m H1 H' → MAt H' m (c + step * i) → A acc H' →
      (∀ v H'', Kp m H' H'' → MAt H'' m (c + step * (i + 1)) → (∀ c, Cel H' m c → Cel H'' m c) → A (acc ++ [v]) H'' → R v H'') → te ((wipe σ vs).set j (some x)) H' R)
    (hd : ∀ acc H', acc.length = n → Kp m H1 H' → MAt H' m (c + step * n) → (∀ c, Cel H1 m c → Cel H' m c) → H' Dl = some (.lst acc) → A acc H' → Qd H') :
    ∃ W : Nat → Nat → Hp → Prop, (∃ m, W 0 m (upd H1 Dl (.lst []))) ∧ ∀ i m H, W i m H →
      (J.stop i H ∧ Qd H) ∨ (J.go i H ∧ ∃ Nx : Hp → Prop, (∀ H', Nx H' → ∃ m', m' < m ∧ W (i + 1) m' H') ∧
        ∀ x H', J.yld i H x H' → gName j x (wipe σ vs) H' fun σ2 H2 => wipe σ2 vs = wipe σ vs ∧ tYes σ2 H2 fun b H3 =>
          if b = true then te σ2 H3 fun y H4 => ∃ acc, H4 Dl = some (.lst acc) ∧ acc.length < sizeLine ∧ Nx (upd H4 Dl (.lst (acc ++ [y]))) else Nx H3) := by
  obtain ⟨cc, hcc, o, hco⟩ := hm.cel
  obtain ⟨kvs, hmd⟩ := hm.dict
  have nm : Dl ≠ m := fun z => by
    rw [z, hmd] at hD
    cases hD
  have nc : Dl ≠ cc := fun z => by
    rw [z, hco] at hD
    cases hD
  have celU : ∀ {H' : Hp} {o : HO} {d : Addr}, Cel H' m d → Cel (upd H' Dl o) m d := fun {H' o d} ⟨l, s, q, e⟩ => ⟨l, s, q, by rw [upd_ne (Ne.symm nm)]; exact e⟩
  refine lc_it wk (fun i H' => ∃ acc : List V, acc.length = i ∧ Kp m H1 H' ∧ MAt H' m (c + step * i) ∧ (∀ c, Cel H1 m c → Cel H' m c) ∧ H' Dl = some (.lst acc) ∧ A acc H')
    ⟨[], rfl, Kp.new hD _, hm.upd hcc nm nc _, fun d h => celU h, upd_same, A0⟩ (fun i H' _ ⟨_, _, k, _⟩ => hG H' k) ?_ ?_
  · rintro i x H H' hi ⟨acc, al, k, mt, cl, hl, ha⟩ y
    obtain rfl := hy i H x H' hi y
    refine ⟨hw _, rd_yes (iteT (he i x acc _ _ hi al k mt ha fun v H2 k2 m2 c2 a2 => ?_))⟩
    have hl2 : H2 Dl = some (.lst acc) := by
      rw [k2 _ _ nm hl]
    refine ⟨acc, hl2, by rw [al, sizeLine_eq]; omega, acc ++ [v], ?_, (k.trans k2).put' hD _, m2.upd (c2 _ (cl _ hcc)) nm nc _, fun d h => celU (c2 _ (cl _ h)), upd_same, hA _ _ _ _ hl2 a2⟩
    rw [List.length_append, al]
    rfl
  · rintro H' ⟨acc, al, k, mt, cl, hl, ha⟩
    exact hd acc H' al k mt cl hl ha

/-! ### cells kept, states written out -/
theorem Cel.same {H H' : Hp} {m : Addr} (s : Same H H') : ∀ c, Cel H m c → Cel H' m c := fun c ⟨l, d, p, e⟩ => ⟨l, d, p, s _ _ e⟩
theorem wipe2 (σ : L2.St) (i j : Nat) (x y : V) (h : i ≠ j) : wipe (((wipe σ [i, j]).set i (some x)).set j (some y)) [i, j] = wipe σ [i, j] := by
  show List.set (List.set (List.set (List.set (List.set (List.set σ j none) i none) i (some x)) j (some y)) j none) i none = List.set (List.set σ j none) i none
  rw [List.set_set, List.set_set, List.set_comm (some x) none h, List.set_set, List.set_set]
theorem rd_st {α : Type} {t : α → L2.St → Hp → Prop} {d : α} {σ : L2.St} {H : Hp} (σ' : L2.St) (e : σ = σ') (h : t d σ' H) : t d σ H := e ▸ h

/-! ### putting is right -/
theorem far_out {a b : Int} {H : Hp} {Q : VK} {E : XK} (h : ∀ z : Str, (a > 1000 ∧ z = "words") ∨ (¬ a > 1000 ∧ b > 60 ∧ z = "depth") → Q (.str z) H) (g : ¬ a > 1000 → ¬ b > 60 → Q .non H) : spFar ([V.int a, V.int b] ++ []) H Q E :=
  ⟨a, b, rfl, fun c => h _ (.inl ⟨c, rfl⟩), fun c1 c2 => h _ (.inr ⟨c1, c2, rfl⟩), g⟩
theorem great_ok {z : Str} {p q : Prop} (h : (p ∧ z = "words") ∨ (q ∧ z = "depth")) : smallD (.tuple ([Str.ofString "great", z].map PyData.str)) = true ∧ (PyData.tuple ([Str.ofString "great", z].map PyData.str)).depth ≤ 64 := by
  refine ⟨?_, by rw [PyData.depth, depth_strs]; decide⟩
  rcases h with ⟨_, rfl⟩ | ⟨_, rfl⟩ <;> decide +kernel
section
variable {P : Program} {K : PySem.W.Frag} {mg : Str → Option Value}
theorem put_great (T : Txt P K mg) {H : Hp} {s o : Say} {v u : V} {x z : Str} {Q : VK} (hs : SayAt H s v) (ho : SayAt H o u) (w1 : s.words ≤ 900) (d1 : s.depth ≤ 60) (w2 : o.words ≤ 900)
    (hz : ((putS x o s).words > 1000 ∧ z = "words") ∨ (((putS x o s).words ≤ 1000 ∧ (putS x o s).depth > 60) ∧ z = "depth")) (h : ∀ (p : Addr) (H7 : Hp), Same H H7 → H7 p = some (.tup [.str "great", .str z]) → Q (.ref p) H7) :
    spPutFor T.C_TooGreat ([v, .str x, u] ++ []) H (fun v H1 => ([V.str "told", v] : List V).length ≤ sizeLine ∧ ∀ p, H1 p = none → ∃ u, some (some (V.ref p)) = some (some u) ∧ Q u (upd H1 p (.tup [.str "told", v]))) (wOut K Q (outs T)) := by
  have fin : ∀ y : Str, y = z → Told2 T.C_TooGreat H (wOut K Q (outs T)) y := by
    rintro y rfl d H1 s1 h1
    refine ⟨true, T.e_TooGreat_TooGreat, fun _ => ⟨rfl, d, _, _, rfl, h1, rfl, fun p np => ?_⟩, (fun z => nomatch z)⟩
    exact h p _ (s1.trans (Same.new np _)) upd_same
  refine ⟨s, o, v, u, x, rfl, hs, ho, w1, d1, w2, fun c1 c2 => ?_, fun c => fin _ ?_, fun c1 c2 => fin _ ?_⟩
  · rcases hz with ⟨a, _⟩ | ⟨⟨a, b⟩, _⟩ <;> omega
  · rcases hz with ⟨_, e⟩ | ⟨⟨a, b⟩, _⟩
    · exact e.symm
    · omega
  · rcases hz with ⟨a, _⟩ | ⟨_, e⟩
    · omega
    · exact e.symm
theorem put_fine (T : Txt P K mg) {H : Hp} {s o : Say} {v u : V} {x : Str} {Q : VK} (hs : SayAt H s v) (ho : SayAt H o u) (w1 : s.words ≤ 900) (d1 : s.depth ≤ 60) (w2 : o.words ≤ 900)
    (c1 : (putS x o s).words ≤ 1000) (c2 : (putS x o s).depth ≤ 60) (h : ∀ (p : Addr) (r : V) (H7 : Hp), Same H H7 → SayAt H7 (putS x o s) r → H7 p = some (.tup [.str "told", r]) → Q (.ref p) H7) :
    spPutFor T.C_TooGreat ([v, .str x, u] ++ []) H (fun v H1 => ([V.str "told", v] : List V).length ≤ sizeLine ∧ ∀ p, H1 p = none → ∃ u, some (some (V.ref p)) = some (some u) ∧ Q u (upd H1 p (.tup [.str "told", v]))) (wOut K Q (outs T)) := by
  refine ⟨s, o, v, u, x, rfl, hs, ho, w1, d1, w2, fun _ _ r H1 s1 a1 => ⟨by show 2 ≤ sizeLine; decide, fun p np => ⟨_, rfl, ?_⟩⟩, fun c => by omega, fun _ c => by omega⟩
  have s2 := Same.new np (.tup [V.str "told", r])
  exact h p r _ (s1.trans s2) (a1.keep (Tk.of s2)) upd_same
end
theorem kpT {K : PySem.W.Frag} {H H' : Hp} {m p : Addr} {xs : List V} {kvs : List (Key × V)} (k : Kp m H H') (hm : H m = some (.dK kvs)) (h : SqT K H p xs) : SqT K H' p xs := by
  rcases h with (h | ⟨o, h⟩) | h
  · exact .inl (.inl (k.get h hm fun z => nomatch z))
  · exact .inl (.inr ⟨o, k.get h hm fun z => nomatch z⟩)
  · exact .inr h
theorem updT {K : PySem.W.Frag} {H : Hp} {d p : Addr} {xs ys zs : List V} (hd : H d = some (.lst ys)) (h : SqT K H p xs) : SqT K (upd H d (.lst zs)) p xs := by
  have ne : ∀ {u : HO}, H p = some u → u ≠ .lst ys → p ≠ d := fun e n z => by
    rw [z, hd] at e
    exact n (Option.some.inj e).symm
  rcases h with (h | ⟨o, h⟩) | h
  · exact .inl (.inl (by rw [upd_ne (ne h fun z => nomatch z)]; exact h))
  · exact .inl (.inr ⟨o, by rw [upd_ne (ne h fun z => nomatch z)]; exact h⟩)
  · exact .inr h
theorem rd_lam {T : List (Addr × Str)} {TT : (XK → Hp → VK → Prop) → Hp → VK → Prop} {t : XK → TE} {σ : L2.St} {H : Hp} {Q : VK} (h1 : LamX.Tabs T H) (h2 : ∀ H1, LamX.ExtN H H1 → LamX.Tabs T H1 → TT (fun E H' Q' => t E σ H' Q') H1 Q) : LamX.tLam T TT t σ H Q := ⟨h1, h2⟩
theorem rd_out {K : PySem.W.Frag} {l : List (Addr × Str × Str)} {tl : XK → Hp → VK → Prop} {H : Hp} {Q : VK} (h : tl (wOut K Q l) H fun v H1 => ([V.str "told", v] : List V).length ≤ sizeLine ∧ ∀ p, H1 p = none → ∃ u, some (some (V.ref p)) = some (some u) ∧ Q u (upd H1 p (.tup [.str "told", v]))) : TOut K l tl H Q := h
theorem MAt.ext {H H' : Hp} {m : Addr} {n : Nat} (h : MAt H m n) (q : LamX.ExtN H H') : MAt H' m n := by
  obtain ⟨l, s, p, c, cs, a1, a2, r⟩ := h
  exact ⟨l, s, p, c, cs, ExtN.dK q a1, ExtN.lst q a2, r⟩
def spRightV (T : List (Addr × Str)) : Sp := fun vs H Q _ => ∃ (m : Addr) (c : Nat), vs = [.ref m] ∧ MAt H m c ∧ c ≤ 100000 ∧ LamX.Tabs T H ∧
  ∀ H' : Hp, KpN m H H' → MAt H' m (c + 1000) → LamX.Tabs T H' → Q (.bl true) H'
theorem prs_of {K : PySem.W.Frag} {H : Hp} : ∀ {ps : List (Int × Int)} {vs : List V}, ps.length = vs.length → (∀ (i : Nat) (v : V), vs[i]? = some v → ∃ a b p, ps[i]? = some (a, b) ∧ v = .ref p ∧ SqT K H p [.int a, .int b]) → PrsAt K H ps vs
  | [], [], _, _ => .nil
  | [], _ :: _, h, _ => by cases h
  | _ :: _, [], h, _ => by cases h
  | (a, b) :: ps, v :: vs, h, f => by
    obtain ⟨a', b', p, e, rfl, hp⟩ := f 0 v rfl
    cases Option.some.inj e
    exact .cons hp (prs_of (Nat.succ.inj h) fun i v e => f (i + 1) v e)
theorem low_small {v W : Int} (v0 : 0 ≤ v) (v1 : v ≤ W) (w0 : 0 < W) (w1 : W.natAbs < 10 ^ 10) : ∀ y ∈ lowT v W, y.natAbs < 10 ^ 11 := by
  obtain ⟨_, a0, a1⟩ := lowT_le v0 v1 w0
  have g0 := gcd_pos (a := v) w0
  have b0 : W / (Int.gcd v W : Int) ≤ W := Int.ediv_le_self _ (by omega)
  intro y hy
  unfold lowT at hy
  simp only [List.mem_cons, List.not_mem_nil, or_false] at hy
  rcases hy with rfl | rfl <;> omega
def xy2 : List Str := ["x", "y"]
def xyz : List Str := ["x", "y", "z"]
def xyzq : List Str := ["x", "y", "z", "q"]
theorem xyz_ok : ∀ x ∈ xyz, okName x := by
  have h : ∀ x ∈ xyz, PyData.strOk x = true ∧ x.cps.size ≤ 20 := by
    unfold xyz
    decide +kernel
  exact h
theorem xy_xyz : ∀ x ∈ xy2, x ∈ xyz := by
  unfold xy2 xyz
  decide +kernel
theorem xyz_q : ∀ x ∈ xyz, x ∈ xyzq := by
  unfold xyz xyzq
  decide +kernel
theorem xyzq_nd : xyzq.Nodup := by
  unfold xyzq
  decide +kernel
section
variable {P : Program} {w : World} {K : PySem.W.Frag} {mg : Str → Option Value} {base : Heap}
theorem sc_law_put_right : FnScope ["m", "saying", "other", "name", "words", "depth", "many", "deep", "far", "told", "names", "point", "inner", "moved", "spot", "value"] ["m"] (defScope s_law_put_right) := ⟨rfl, rfl, rfl, by decide +kernel, rfl, by decide +kernel, by decide +kernel⟩
theorem ok_law_put_right (T : Txt P K mg) (B_law_put_right : LamX.TabB base mg T.c_law_put_right T.P_law_put_right) {k : Nat} : FnG P w K mg base CX0 (k + 120) T.f_law_put_right T.d_law_put_right ["m"] (spRightV (tabsT T)) := by
  refine okGL T.F_law_put_right sc_law_put_right (fun vs H Q E h => ?_) (fun A outer s H vs Q E hr gd h => ?_)
  · obtain ⟨m, c, rfl, _⟩ := h
    rfl
  obtain ⟨m, c, rfl, hm, hc, ht, q⟩ := h
  refine ⟨_, (pss_cons (ps_asg (pe_tup (pa_cons (pe_call (ok_law_saying_n T 20) hr (by rfl) T.g_law_saying T.F_law_saying.kp T.b_law_saying .nil pass0 (pa_cons (pv 0) (pa_cons (pe_lst (pa_cons pe_str (pa_cons pe_str pa_nil))) (pa_cons (pe_call (ok_law_of T) hr (by rfl) T.g_law_of T.F_law_of.kp T.b_law_of .nil pass0 (pa_cons (pv 0) (pa_cons (pe_lst (pa_cons pe_int (pa_cons pe_int (pa_cons pe_int (pa_cons pe_int (pa_cons pe_int pa_nil)))))) pa_nil))) pa_nil)))) (pa_cons (pe_call (ok_law_other T) hr (by rfl) T.g_law_other T.F_law_other.kp T.b_law_other .nil pass0 (pa_cons (pv 0) pa_nil)) pa_nil))) (pg_tup rfl (pgs_cons (pg_name (i := 1) sc_law_put_right.nd rfl (Or.inr rfl)) (pgs_cons (pg_name (i := 2) sc_law_put_right.nd rfl (Or.inr rfl)) pgs_nil))))
    (pss_cons (ps_set (i := 3) sc_law_put_right.nd rfl (Or.inr rfl) (pe_call (ok_law_of T) hr (by rfl) T.g_law_of T.F_law_of.kp T.b_law_of .nil pass0 (pa_cons (pv 0) (pa_cons (pe_lst (pa_cons pe_str (pa_cons pe_str (pa_cons pe_str (pa_cons pe_str (pa_cons pe_str pa_nil)))))) pa_nil))))
    (pss_cons (ps_asg (pe_call (ok_law_size T 100) hr (by rfl) T.g_law_size T.F_law_size.kp T.b_law_size .nil pass0 (pa_cons (pv 2) (pa_cons pe_str (pa_cons pe_int (pa_cons pe_int pa_nil))))) (pg_tup rfl (pgs_cons (pg_name (i := 4) sc_law_put_right.nd rfl (Or.inl rfl)) (pgs_cons (pg_name (i := 5) sc_law_put_right.nd rfl (Or.inl rfl)) pgs_nil))))
    (pss_cons (ps_asg (pe_call (ok_law_size T 100) hr (by rfl) T.g_law_size T.F_law_size.kp T.b_law_size .nil pass0 (pa_cons (pv 1) (pa_cons (pv 3) (pa_cons (pv 4) (pa_cons (pv 5) pa_nil))))) (pg_tup rfl (pgs_cons (pg_name (i := 6) sc_law_put_right.nd rfl (Or.inl rfl)) (pgs_cons (pg_name (i := 7) sc_law_put_right.nd rfl (Or.inl rfl)) pgs_nil))))
    (pss_cons (ps_set (i := 8) sc_law_put_right.nd rfl (Or.inl rfl) (pe_call (ok_law_far T) hr (by rfl) T.g_law_far T.F_law_far.kp T.b_law_far .nil pass0 (pa_cons (pv 6) (pa_cons (pv 7) pa_nil))))
    (pss_cons (ps_set (i := 9) sc_law_put_right.nd rfl (Or.inl rfl) (pe_lam (T := tabsT T) (by rfl) T.g_law_outcome T.F_law_outcome T.b_law_outcome sc_law_outcome rfl (Or.inl rfl) (fun cdv => gives_outcome T rfl rfl _ cdv) B_law_put_right rfl (lamM_law_put_right T) (lamU_law_put_right T) hr (show LamX.LamS (defScope s_law_put_right) _ from LamX.lamS_by (by decide +kernel)) rfl (fun _ _ _ _ _ => rfl) (fun A outer s H E f c hrl => (pe_call (ok_put_for T) hrl (by rfl) T.g_put_for T.F_put_for.kp T.b_put_for .nil (passes_call (takes_of rfl rfl rfl rfl) fun _ _ _ _ h => h) (pa_cons (pv 1) (pa_cons (pv 3) (pa_cons (pv 2) pa_nil)))))))
    (pss_cons (ps_if (pt_cmpR op_notN (pv 8) pe_non (by rfl)) (pss_one (ps_ret (pe_cmpR (eqDK K hr.units) (pv 9) (pe_tup (pa_cons pe_str (pa_cons (pv 8) pa_nil))) (by rfl)))) pss_nil)
    (pss_cons (ps_if (pt_cmpR op_ne (pe_callB (reprK K gd hr) (by rfl) T.z_repr (by decide +kernel) (pa_cons (pv 9) pa_nil)) (pe_callB (reprK K gd hr) (by rfl) T.z_repr (by decide +kernel) (pa_cons (pe_tup (pa_cons pe_str (pa_cons (pe_call (ok_law_put T 100) hr (by rfl) T.g_law_put T.F_law_put.kp T.b_law_put .nil pass0 (pa_cons (pv 1) (pa_cons (pv 3) (pa_cons (pv 2) pa_nil)))) pa_nil))) pa_nil)) (by rfl)) (pss_one (ps_ret pe_bl)) pss_nil)
    (pss_cons (ps_set (i := 10) sc_law_put_right.nd rfl (Or.inl rfl) (pe_tup (pa_cons pe_str (pa_cons pe_str (pa_cons pe_str (pa_cons pe_str pa_nil))))))
    (pss_cons (ps_set (i := 11) sc_law_put_right.nd rfl (Or.inl rfl) (pe_callTy (tuple_ofK K) (by rfl) T.z_tuple (by decide +kernel) (pa_cons (pe_lc (own := [("spot", 14)]) (g := (gName 14)) rfl sc_law_put_right.nd (pi_tup (pv 10)) (blkOk_by (N := ["m", "saying", "other", "name", "words", "depth", "many", "deep", "far", "told", "names", "point", "inner", "moved", "spot", "value"]) (sc := defScope s_law_put_right) (by decide +kernel)) (fun _ _ _ _ _ => (pg_name (i := 14) sc_law_put_right.nd rfl (Or.inl rfl))) (fun _ _ _ _ _ => pts_nil) (fun _ _ _ _ _ => (pe_call (ok_law_ofC T) hr (by rfl) T.g_law_of T.F_law_of.kp T.b_law_of .nil pass0 (pa_cons (pv 0) (pa_cons (pe_lst (pa_cons (pe_tup (pa_cons pe_int (pa_cons pe_int pa_nil))) (pa_cons (pe_tup (pa_cons pe_int (pa_cons pe_int pa_nil))) (pa_cons (pe_tup (pa_cons pe_int (pa_cons pe_int pa_nil))) (pa_cons (pe_tup (pa_cons pe_int (pa_cons pe_int pa_nil))) (pa_cons (pe_tup (pa_cons pe_int (pa_cons pe_int pa_nil))) (pa_cons (pe_tup (pa_cons pe_int (pa_cons pe_int pa_nil))) (pa_cons (pe_tup (pa_cons pe_int (pa_cons pe_int pa_nil))) pa_nil)))))))) pa_nil))))) pa_nil)))
    (pss_cons (ps_set (i := 12) sc_law_put_right.nd rfl (Or.inr rfl) (pe_call (ok_value_at T) hr (by rfl) T.g_value_at T.F_value_at.kp T.b_value_at .nil passL (pa_cons (pv 2) (pa_cons (pv 10) (pa_cons (pv 11) pa_nil)))))
    (pss_cons (ps_set (i := 13) sc_law_put_right.nd rfl (Or.inl rfl) (pe_callTy (tuple_ofK K) (by rfl) T.z_tuple (by decide +kernel) (pa_cons (pe_lc (own := [("spot", 14), ("value", 15)]) (g := (gTup K 2 (gCons (gName 14) (gCons (gName 15) gNil)))) rfl sc_law_put_right.nd (RZ.pi_zipA (by rfl) T.z_zip (pa_cons (pv 10) (pa_cons (pv 11) pa_nil))) (blkOk_by (N := ["m", "saying", "other", "name", "words", "depth", "many", "deep", "far", "told", "names", "point", "inner", "moved", "spot", "value"]) (sc := defScope s_law_put_right) (by decide +kernel)) (fun _ _ _ _ _ => (pg_tup rfl (pgs_cons (pg_name (i := 14) sc_law_put_right.nd rfl (Or.inl rfl)) (pgs_cons (pg_name (i := 15) sc_law_put_right.nd rfl (Or.inl rfl)) pgs_nil)))) (fun _ _ _ _ _ => pts_nil) (fun _ _ _ _ _ => (pe_ifExp (pt_cmpR op_eq (pv 14) (pv 3) (by rfl)) (pv 12) (pv 15)))) pa_nil)))
    (pss_one (ps_ret (pe_cmpR op_eq (pe_callB (reprK K gd hr) (by rfl) T.z_repr (by decide +kernel) (pa_cons (pe_call (ok_value_at T) hr (by rfl) T.g_value_at T.F_value_at.kp T.b_value_at .nil passL (pa_cons (pe_ix (ix_tupK K) (pv 9) pe_int (fun _ _ => rfl)) (pa_cons (pv 10) (pa_cons (pv 11) pa_nil)))) pa_nil)) (pe_callB (reprK K gd hr) (by rfl) T.z_repr (by decide +kernel) (pa_cons (pe_call (ok_value_at T) hr (by rfl) T.g_value_at T.F_value_at.kp T.b_value_at .nil passL (pa_cons (pv 1) (pa_cons (pv 10) (pa_cons (pv 13) pa_nil)))) pa_nil)) (by rfl)))))))))))))))), ?_⟩
  try dsimp only [L2.cxOf, L2.Cx.nox]
  obtain ⟨kvs, hmd⟩ := hm.dict
  walk_at "rd"
  refine ⟨by show 2 ≤ sizeLine; decide, fun p1 n1 => ?_⟩
  have s1 := Same.new n1 (.lst (xy2.map V.str))
  have g1 : (upd H p1 (.lst (xy2.map V.str))) p1 = some (.lst (xy2.map V.str)) := upd_same
  have m1 := hm.same s1
  walk_at "rd"
  refine ⟨by show 5 ≤ sizeLine; decide, fun p2 n2 => ?_⟩
  have s2 := Same.new n2 (.lst [V.int 0, V.int 1, V.int 2, V.int 5, V.int 12])
  have m2 := m1.same s2
  walk_at "rd"
  refine ⟨m, p2, _, _, rfl, m2, by omega, upd_same, List.cons_ne_nil _ _, by show 5 ≤ 1000; decide, fun v H3 hv k3 m3 => ?_⟩
  obtain ⟨size, rfl, hsz⟩ : ∃ size : Nat, v = .int (size : Int) ∧ size ≤ 12 := by
    simp only [List.mem_cons, List.not_mem_nil, or_false] at hv
    rcases hv with rfl | rfl | rfl | rfl | rfl
    · exact ⟨0, rfl, by decide⟩
    · exact ⟨1, rfl, by decide⟩
    · exact ⟨2, rfl, by decide⟩
    · exact ⟨5, rfl, by decide⟩
    · exact ⟨12, rfl, by decide⟩
  have g3 := m2.lst k3 (s2 _ _ g1)
  have k03 : Kp m H H3 := ((Kp.of s1).trans (Kp.of s2)).trans k3
  walk_at "rd"
  refine ⟨m, p1, _, size, xy2, rfl, m3, by omega, g3, (fun z => by unfold xy2 at z; cases z), by show 2 ≤ 100; decide, by omega, fun s sv H4 k4 m4 hs hle hmk hdp hwd => ?_⟩
  have k04 := k03.trans k4
  have m4 : MAt H4 m (c + 300) := m4.mono (by omega)
  clear hmk g3 g1 s1 s2 m1 m2 m3 k03 k3 n1 n2
  walk_at "rd"
  refine ⟨m, _, rfl, m4, by omega, fun o ov H5 k5 m5 ho hol hod how => ?_⟩
  obtain ⟨kv4, md4⟩ := m4.dict
  have hs5 := hs.keep (Tk.kp k5 md4)
  have k05 := k04.trans k5
  walk_at "rd"
  refine ⟨by show 2 ≤ sizeLine; decide, fun p6 n6 => ?_⟩
  have s6 := Same.new n6 (.tup [sv, ov])
  refine rd_gtup (sqT upd_same) rfl ?_
  have hs6 := hs5.keep (Tk.of s6)
  have ho6 := ho.keep (Tk.of s6)
  have m6 := m5.same s6
  have k06 := k05.trans (Kp.of s6)
  generalize upd H5 p6 (.tup [sv, ov]) = H6 at hs6 ho6 m6 k06
  clear s6 n6 hs5 ho m5 k05 hs k5 m4 md4 k04 k4
  walk_at "rd"
  refine ⟨by show 5 ≤ sizeLine; decide, fun p7 n7 => ?_⟩
  have s7 := Same.new n7 (.lst [V.str (Str.ofString "x"), V.str (Str.ofString "x"), V.str (Str.ofString "x"), V.str (Str.ofString "y"), V.str (Str.ofString "q")])
  have m7 := m6.same s7
  walk_at "rd"
  refine ⟨m, p7, _, _, rfl, m7, by omega, upd_same, List.cons_ne_nil _ _, by show 5 ≤ 1000; decide, fun nv H8 hnv k8 m8 => ?_⟩
  obtain ⟨x, rfl⟩ : ∃ x : Str, nv = .str x := by
    simp only [List.mem_cons, List.not_mem_nil, or_false] at hnv
    rcases hnv with rfl | rfl | rfl | rfl | rfl <;> exact ⟨_, rfl⟩
  obtain ⟨kv7, md7⟩ := m7.dict
  have hs8 := (hs6.keep (Tk.of s7)).keep (Tk.kp k8 md7)
  have ho8 := (ho6.keep (Tk.of s7)).keep (Tk.kp k8 md7)
  have k08 := (k06.trans (Kp.of s7)).trans k8
  clear hnv s7 n7 m7 md7 m6 k06 hs6 ho6 k8
  walk_at "rd"
  refine ⟨o, ov, "", 1, 0, rfl, ho8, by omega, fun p9 H9 s9 h9 => ?_⟩
  rw [sz_one] at h9
  refine rd_gtup (sqT h9) rfl ?_
  walk_at "rd"
  refine ⟨s, sv, x, o.words, o.depth, rfl, hs8.keep (Tk.of s9), by omega, fun p10 H10 s10 h10 => ?_⟩
  rw [sz_put] at h10
  refine rd_gtup (sqT h10) rfl ?_
  have s910 := s9.trans s10
  have hs10 := hs8.keep (Tk.of s910)
  have ho10 := ho8.keep (Tk.of s910)
  have m10 := m8.same s910
  have k010 := k08.trans (Kp.of s910)
  clear s9 s10 s910 h9 h10 hs8 ho8 m8 k08
  walk_at "rd"
  have wb : s.words ≤ 900 := by omega
  have db : s.depth ≤ 60 := by omega
  have ob : o.words ≤ 900 := by omega
  refine far_out (fun z hz => ?_) (fun c1 c2 => ?_)
  · have hz2 : ((putS x o s).words > 1000 ∧ z = "words") ∨ (((putS x o s).words ≤ 1000 ∧ (putS x o s).depth > 60) ∧ z = "depth") := by
      rcases hz with ⟨a, b⟩ | ⟨a, b, e⟩
      · exact .inl ⟨by omega, b⟩
      · exact .inr ⟨⟨by omega, by omega⟩, e⟩
    walk_at "rd"
    refine rd_lam (TabsKp ht k010 hmd) fun H11 ex tb => rd_out ?_
    walk_at "rd"
    refine put_great T (hs10.keep (Tk.ofN ex)) (ho10.keep (Tk.ofN ex)) wb db ob hz2 fun p H12 s12 h12 => ?_
    obtain ⟨sm, dp⟩ := great_ok hz2
    walk_at "rd"
    refine ⟨rfl, ?_⟩
    walk_at "rd"
    rw [decide_eq_false (fun y => nomatch y)]
    refine iteT ?_
    walk_at "rd"
    refine ⟨by show 2 ≤ sizeLine; decide, fun p13 n13 => ?_⟩
    have s13 := Same.new n13 (.tup [V.str (Str.ofString "great"), V.str z])
    refine rd_eqD (.tup (sqT (s13 _ _ h12)) (dp_strs K _ [Str.ofString "great", z])) (.tup (sqT upd_same) (dp_strs K _ [Str.ofString "great", z])) sm sm dp dp ?_
    rw [SeqAt.eqv_refl _ (small_lay _ sm)]
    have zz := s12.trans s13
    exact q _ (((KpN.of k010).trans (ExtN.kp ex)).trans (KpN.of (Kp.of zz))) (((m10.ext ex).same zz).mono (by omega)) (tb.ext zz)
  · walk_at "rd"
    refine rd_lam (TabsKp ht k010 hmd) fun H11 ex tb => rd_out ?_
    walk_at "rd"
    have m11 := m10.ext ex
    have k11 : KpN m H H11 := (KpN.of k010).trans (ExtN.kp ex)
    have hs11 := hs10.keep (Tk.ofN ex)
    have ho11 := ho10.keep (Tk.ofN ex)
    refine put_fine T hs11 ho11 wb db ob (by omega) (by omega) fun p r H12 s12 ha h12 => ?_
    have hs12 := hs11.keep (Tk.of s12)
    have ho12 := ho11.keep (Tk.of s12)
    have m12 := m11.same s12
    have k12 := k11.trans (KpN.of (Kp.of s12))
    have tb12 := tb.ext s12
    clear hs11 ho11 m11 k11 tb s12 ex hs10 ho10 m10 k010 H11
    have nleaf : ∀ y ∈ (putS x o s).leaves, y ∈ xyz := fun y hy => (put_leaves x o s y hy).elim (fun z => xy_xyz y (hle y z)) (hol y)
    have smN := say_small (putS x o s) fun y hy => xyz_ok y (nleaf y hy)
    have bkN := say_bulk (putS x o s) fun y hy => xyz_ok y (nleaf y hy)
    have dpN := say_depth (putS x o s)
    have nin : ∀ y ∈ (putS x o s).leaves, y ∈ xyzq := fun y hy => xyz_q y (nleaf y hy)
    have oin : ∀ y ∈ o.leaves, y ∈ xyzq := fun y hy => xyz_q y (hol y hy)
    have sin : ∀ y ∈ s.leaves, y ∈ xyzq := fun y hy => xyz_q y (xy_xyz y (hle y hy))
    have msame : ∀ {ps : List (Int × Int)} {u z : Int}, Pts xyzq ps → lowT (vSay (fz (cden ps) (xyzq.zip ps)) (cden ps) o) (cden ps) = [u, z] → Pts xyzq (mvd x (u, z) xyzq ps) → lowT (vSay (fz (cden ps) (xyzq.zip ps)) (cden ps) (putS x o s)) (cden ps) = lowT (vSay (fz (cden (mvd x (u, z) xyzq ps)) (xyzq.zip (mvd x (u, z) xyzq ps))) (cden (mvd x (u, z) xyzq ps)) s) (cden (mvd x (u, z) xyzq ps)) := fun pt e pt2 => move_same pt sin oin e pt2
    have wN : (putS x o s).words ≤ 1000 := by omega
    have dN : (putS x o s).depth ≤ 60 := by omega
    have put2 : ∀ {Q' : VK} {H' : Hp}, SayAt H' s sv → SayAt H' o ov → (∀ r2 H2, Same H' H2 → SayAt H2 (putS x o s) r2 → Q' r2 H2) → spPut 100 ([sv, .str x, ov] ++ []) H' Q' E0 := fun a1 a2 f => ⟨s, o, sv, ov, x, rfl, a1, a2, by omega, f⟩
    generalize putS x o s = N at ha smN bkN dpN nleaf nin msame wN dN put2
    have smT : smallD (.tuple [.str (Str.ofString "told"), N.data]) = true := by
      rw [smallD, smallDs, smallDs, smallDs, smallD, smN]
      decide +kernel
    have bkT : (PyData.tuple [.str (Str.ofString "told"), N.data]).bulk ≤ 1000000 := by
      rw [PyData.bulk, PyData.bulkAll, PyData.bulkAll, PyData.bulkAll, PyData.bulk]
      show 4 + 1 + (N.data.bulk + 1 + 0) ≤ 1000000
      omega
    have dpT : (PyData.tuple [.str (Str.ofString "told"), N.data]).depth ≤ 150 := by
      rw [PyData.depth, PyData.depthAll, PyData.depthAll, PyData.depthAll, PyData.depth, dpN]
      omega
    walk_at "rd"
    refine ⟨rfl, ?_⟩
    walk_at "rd"
    rw [decide_eq_true rfl]
    refine iteF ?_
    walk_at "rd"
    refine rd_repr (.tup (sqT h12) (.cons (.str _) (.cons (ha.dp K) .nil))) smT bkT dpT ?_
    walk_at "rd"
    refine put2 hs12 ho12 fun r2 H13 s13 a13 => ?_
    walk_at "rd"
    refine ⟨by show 2 ≤ sizeLine; decide, fun p14 n14 => ?_⟩
    have s14 := Same.new n14 (.tup [V.str (Str.ofString "told"), r2])
    walk_at "rd"
    refine rd_repr (.tup (sqT upd_same) (.cons (.str _) (.cons ((a13.keep (Tk.of s14)).dp K) .nil))) smT bkT dpT ?_
    walk_at "rd"
    rw [decide_eq_true rfl]
    refine iteF ?_
    walk_at "rd"
    refine ⟨by show 4 ≤ sizeLine; decide, fun p15 n15 => ?_⟩
    have s15 := Same.new n15 (.tup (xyzq.map V.str))
    have g15 : (upd (upd H13 p14 (.tup [V.str (Str.ofString "told"), r2])) p15 (.tup (xyzq.map V.str))) p15 = some (.tup (xyzq.map V.str)) := upd_same
    have s1215 := (s13.trans s14).trans s15
    have hs15 := hs12.keep (Tk.of s1215)
    have ho15 := ho12.keep (Tk.of s1215)
    have ha15 := ha.keep (Tk.of s1215)
    have h15 := s1215 _ _ h12
    have m15 := m12.same s1215
    have k15 := k12.trans (KpN.of (Kp.of s1215))
    have tb15 := tb12.ext s1215
    change tSeq _ _ _ _ (upd (upd H13 p14 (.tup [V.str (Str.ofString "told"), r2])) p15 (.tup (xyzq.map V.str)))
    generalize upd (upd H13 p14 (.tup [V.str (Str.ofString "told"), r2])) p15 (.tup (xyzq.map V.str)) = H15 at g15 hs15 ho15 ha15 h15 m15 k15 tb15
    clear s1215 s15 s14 s13 a13 hs12 ho12 ha h12 m12 k12 tb12 n14 n15 put2 smT bkT dpT smN bkN dpN
    walk_at "rd"
    refine rd_atT (sqT g15) fun D16 n16 => lcDraw (walk_tup (K := K) (a := p15) (xs := xyzq.map V.str)) 1 (c + 401) (fun acc H' => ∃ ps, PrsAt K H' ps acc ∧ DenOk ps ∧ NumOk ps) (m15.mono (by omega)) n16 (by show 4 ≤ 1000; decide) (fun i H x H' _ y => y.1) (fun H' k' => by obtain ⟨kk, hk⟩ := m15.dict; exact kpT k' hk (sqT g15)) (fun acc H' ys zs hD ⟨ps, a1, a2, a3⟩ => ⟨ps, a1.keep fun _ _ h => updT hD h, a2, a3⟩) ⟨[], .nil, (fun z h => nomatch h), (fun z h => nomatch h)⟩ (fun x => rfl) ?_ ?_
    · rintro i x' acc H' R hi al k' mt ⟨ps, a1, a2, a3⟩ r
      have hi4 : i < 4 := hi
      obtain ⟨kk, hk⟩ := mt.dict
      clear msame nin oin sin nleaf hs15 ho15 ha15 h15 k15 tb15 q ht
      walk_at "rd"
      refine ⟨by show 2 ≤ sizeLine; decide, fun q1 w1 => ?_⟩
      have u1 := Same.new w1 (.tup [V.int 0, V.int 1])
      have e1 : (upd H' q1 (.tup [V.int 0, V.int 1])) q1 = some (.tup [V.int 0, V.int 1]) := upd_same
      generalize upd H' q1 (.tup [V.int 0, V.int 1]) = G1 at u1 e1
      walk_at "rd"
      refine ⟨by show 2 ≤ sizeLine; decide, fun q2 w2 => ?_⟩
      have u2 := Same.new w2 (.tup [V.int 1, V.int 1])
      have e2 : (upd G1 q2 (.tup [V.int 1, V.int 1])) q2 = some (.tup [V.int 1, V.int 1]) := upd_same
      generalize upd G1 q2 (.tup [V.int 1, V.int 1]) = G2 at u2 e2
      walk_at "rd"
      refine ⟨by show 2 ≤ sizeLine; decide, fun q3 w3 => ?_⟩
      have u3 := Same.new w3 (.tup [V.int 1, V.int 2])
      have e3 : (upd G2 q3 (.tup [V.int 1, V.int 2])) q3 = some (.tup [V.int 1, V.int 2]) := upd_same
      generalize upd G2 q3 (.tup [V.int 1, V.int 2]) = G3 at u3 e3
      walk_at "rd"
      refine ⟨by show 2 ≤ sizeLine; decide, fun q4 w4 => ?_⟩
      have u4 := Same.new w4 (.tup [V.int 2, V.int 3])
      have e4 : (upd G3 q4 (.tup [V.int 2, V.int 3])) q4 = some (.tup [V.int 2, V.int 3]) := upd_same
      generalize upd G3 q4 (.tup [V.int 2, V.int 3]) = G4 at u4 e4
      walk_at "rd"
      refine ⟨by show 2 ≤ sizeLine; decide, fun q5 w5 => ?_⟩
      have u5 := Same.new w5 (.tup [V.int 3, V.int 7])
      have e5 : (upd G4 q5 (.tup [V.int 3, V.int 7])) q5 = some (.tup [V.int 3, V.int 7]) := upd_same
      generalize upd G4 q5 (.tup [V.int 3, V.int 7]) = G5 at u5 e5
      walk_at "rd"
      refine ⟨by show 2 ≤ sizeLine; decide, fun q6 w6 => ?_⟩
      have u6 := Same.new w6 (.tup [V.int 5, V.int 8])
      have e6 : (upd G5 q6 (.tup [V.int 5, V.int 8])) q6 = some (.tup [V.int 5, V.int 8]) := upd_same
      generalize upd G5 q6 (.tup [V.int 5, V.int 8]) = G6 at u6 e6
      walk_at "rd"
      refine ⟨by show 2 ≤ sizeLine; decide, fun q7 w7 => ?_⟩
      have u7 := Same.new w7 (.tup [V.int 1, V.int 9])
      have e7 : (upd G6 q7 (.tup [V.int 1, V.int 9])) q7 = some (.tup [V.int 1, V.int 9]) := upd_same
      generalize upd G6 q7 (.tup [V.int 1, V.int 9]) = G7 at u7 e7
      walk_at "rd"
      refine ⟨by show 7 ≤ sizeLine; decide, fun ql wl => ?_⟩
      have ul := Same.new wl (.lst [.ref q1, .ref q2, .ref q3, .ref q4, .ref q5, .ref q6, .ref q7])
      have el : (upd G7 ql (.lst [.ref q1, .ref q2, .ref q3, .ref q4, .ref q5, .ref q6, .ref q7])) ql = some (.lst [.ref q1, .ref q2, .ref q3, .ref q4, .ref q5, .ref q6, .ref q7]) := upd_same
      generalize upd G7 ql (.lst [.ref q1, .ref q2, .ref q3, .ref q4, .ref q5, .ref q6, .ref q7]) = G8 at ul el
      have S7 := ul
      have S6 := u7.trans S7
      have S5 := u6.trans S6
      have S4 := u5.trans S5
      have S3 := u4.trans S4
      have S2 := u3.trans S3
      have S1 := u2.trans S2
      have S := u1.trans S1
      walk_at "rd"
      refine ⟨m, ql, _, _, rfl, mt.same S, by omega, el, List.cons_ne_nil _ _, by show 7 ≤ 1000; decide, fun v H'' hv k2 m2 c2 => ?_⟩
      obtain ⟨a, b, pq, rfl, hpq, b0, bd, a0, ab⟩ : ∃ (a b : Int) (pq : Addr), v = .ref pq ∧ G8 pq = some (.tup [.int a, .int b]) ∧ 0 < b ∧ b.natAbs ∣ 504 ∧ 0 ≤ a ∧ a ≤ b := by
        simp only [List.mem_cons, List.not_mem_nil, or_false] at hv
        rcases hv with rfl | rfl | rfl | rfl | rfl | rfl | rfl
        · exact ⟨0, 1, q1, rfl, S1 _ _ e1, by decide, by decide, by decide, by decide⟩
        · exact ⟨1, 1, q2, rfl, S2 _ _ e2, by decide, by decide, by decide, by decide⟩
        · exact ⟨1, 2, q3, rfl, S3 _ _ e3, by decide, by decide, by decide, by decide⟩
        · exact ⟨2, 3, q4, rfl, S4 _ _ e4, by decide, by decide, by decide, by decide⟩
        · exact ⟨3, 7, q5, rfl, S5 _ _ e5, by decide, by decide, by decide, by decide⟩
        · exact ⟨5, 8, q6, rfl, S6 _ _ e6, by decide, by decide, by decide, by decide⟩
        · exact ⟨1, 9, q7, rfl, S7 _ _ e7, by decide, by decide, by decide, by decide⟩
      have hk8 := S _ _ hk
      refine r _ H'' ((Kp.of S).trans k2) (m2.mono (by omega)) (fun d h => c2 d (Cel.same S d h)) ⟨ps ++ [(a, b)], (a1.keep fun _ _ h => kpT k2 hk8 (same_sqT S _ _ h)).append (.cons (kpT k2 hk8 (sqT hpq)) .nil), ?_, ?_⟩
      · intro z hz
        rcases List.mem_append.mp hz with hz | hz
        · exact a2 z hz
        · obtain rfl := List.mem_singleton.mp hz
          exact ⟨b0, bd⟩
      · intro z hz
        rcases List.mem_append.mp hz with hz | hz
        · exact a3 z hz
        · obtain rfl := List.mem_singleton.mp hz
          exact ⟨a0, ab⟩
    rintro acc H16 al k16 m16 cl hl ⟨ps, hp, hden, hnum⟩
    obtain ⟨kv15, md15⟩ := m15.dict
    have lp : ps.length = 4 := by rw [hp.length, al]; rfl
    have pt : Pts xyzq ps := ⟨xyzq_nd, lp.symm, by omega, hden, hnum⟩
    have m16' : MAt H16 m (c + 500) := m16.mono (by show c + 401 + 1 * 4 ≤ c + 500; omega)
    have hs16 := hs15.keep (Tk.kp k16 md15)
    have ho16 := ho15.keep (Tk.kp k16 md15)
    have ha16 := ha15.keep (Tk.kp k16 md15)
    have g16 : SqT K H16 p15 (xyzq.map V.str) := kpT k16 md15 (sqT g15)
    have h16 : SqT K H16 p [.str "told", r] := kpT k16 md15 (sqT h15)
    have tb16 := TabsKp tb15 k16 md15
    have k016 := k15.trans (KpN.of k16)
    clear hs15 ho15 ha15 h15 k15 tb15 m15 md15 g15 k16 m16 cl ht hm hmd
    walk_at "rd"
    refine ⟨D16, _, rfl, .inl ⟨sqL hl, fun p17 n17 => ?_⟩⟩
    have s17 := Same.new n17 (.tup acc)
    have gp17 : SqT K (upd H16 p17 (.tup acc)) p17 acc := sqT upd_same
    have hp17 := hp.keep (same_sqT s17)
    have hs17 := hs16.keep (Tk.of s17)
    have ho17 := ho16.keep (Tk.of s17)
    have ha17 := ha16.keep (Tk.of s17)
    have g17 := s17.seqT g16
    have h17 := s17.seqT h16
    have tb17 := tb16.ext s17
    have m17 := m16'.same s17
    have k017 := k016.trans (KpN.of (Kp.of s17))
    generalize upd H16 p17 (.tup acc) = H17 at gp17 hp17 hs17 ho17 ha17 g17 h17 tb17 m17 k017
    clear hs16 ho16 ha16 g16 h16 tb16 m16' k016 s17 n17 hl hp
    walk_at "rd"
    refine ⟨o, ov, p15, p17, xyzq, acc, ps, rfl, ho17, by omega, by omega, g17, gp17, hp17, pt, fun _ pin H18 s18 h18 => ?_, fun i y hy hn _ => absurd (oin y (((names_leaves o [] y).mp (List.mem_of_getElem? hy)).elim (fun z => nomatch z) id)) hn⟩
    obtain ⟨u, z, hz⟩ : ∃ u z, lowT (vSay (fz (cden ps) (xyzq.zip ps)) (cden ps) o) (cden ps) = [u, z] := ⟨_, _, rfl⟩
    rw [hz] at h18
    have cs := cden_small pt.den ps.length (Nat.le_refl _)
    rw [List.take_length] at cs
    have w0 : (0 : Int) < cden ps := by omega
    have vin := fun (S : Say) (hS : ∀ y ∈ S.leaves, y ∈ xyzq) => vSay_in (f := fz (cden ps) (xyzq.zip ps)) (W := cden ps) (by omega) S fun y hy => pt.bound (by omega) (hS y hy)
    have hp2 : Pts xyzq (mvd x (u, z) xyzq ps) := by
      obtain ⟨g, g0, e1, e2, z0⟩ := low_parts w0 hz
      obtain ⟨v0, v1⟩ := vin o oin
      have u0 : 0 ≤ u := by
        rcases Int.lt_or_le u 0 with cc | cc
        · have := Int.mul_neg_of_pos_of_neg g0 cc
          omega
        · exact cc
      have uz : u ≤ z := by
        rw [e1, e2] at v1
        exact Int.le_of_mul_le_mul_left v1 g0
      have zd : z.natAbs ∣ 504 := by
        refine Nat.dvd_trans ?_ cs.2
        have : z ∣ (cden ps : Int) := ⟨g, by rw [e2, Int.mul_comm]⟩
        exact Int.natAbs_dvd_natAbs.mpr this
      refine ⟨xyzq_nd, ?_, ?_, ?_, ?_⟩
      · unfold mvd
        rw [List.length_map, List.length_zip, lp]
        rfl
      · unfold mvd
        rw [List.length_map, List.length_zip, lp]
        decide
      · intro y hy
        obtain ⟨yy, hyy, rfl⟩ := List.mem_map.mp hy
        by_cases cc : yy.1 = x
        · rw [if_pos cc]
          exact ⟨z0, zd⟩
        · rw [if_neg cc]
          exact hden _ (List.of_mem_zip hyy).2
      · intro y hy
        obtain ⟨yy, hyy, rfl⟩ := List.mem_map.mp hy
        by_cases cc : yy.1 = x
        · rw [if_pos cc]
          exact ⟨u0, uz⟩
        · rw [if_neg cc]
          exact hnum _ (List.of_mem_zip hyy).2
    have eqN := msame pt hz hp2
    have hs18 := hs17.keep (Tk.of s18)
    have ha18 := ha17.keep (Tk.of s18)
    have g18 := s18.seqT g17
    have h18' := s18.seqT h17
    have gp18 := s18.seqT gp17
    have hp18 := hp17.keep (same_sqT s18)
    have tb18 := tb17.ext s18
    have m18 := m17.same s18
    have k018 := k017.trans (KpN.of (Kp.of s18))
    have hin : H18 pin = some (.tup [V.int u, V.int z]) := h18
    clear hs17 ho17 ha17 g17 h17 tb17 m17 k017 s18 gp17 hp17 h18 msame
    have lacc : acc.length = 4 := al
    have lq : xyzq.length = 4 := rfl
    refine rd_st [some (.ref m), some sv, some ov, some (.str x), some (.int o.words), some (.int o.depth), some (.int N.words), some (.int N.depth), some .non, some (.ref p), some (.ref p15), some (.ref p17), some (.ref pin), none, none, none] rfl ?_
    walk_at "rd"
    refine rd_atZ g18 gp18 fun D19 n19 => lc_zip (fun i => if xyzq[i]? = some x then V.ref pin else acc.getD i .non) (by rw [lacc, List.length_map, lq]) (by rw [List.length_map, lq]; decide) n19 g18 gp18 (fun x y => wipe2 _ 14 15 x y (by decide)) ?_ fun H19 s19 g19 => ?_
    · intro i y v H' R hy hv s' rr
      obtain ⟨y', hy', rfl⟩ : ∃ y', xyzq[i]? = some y' ∧ V.str y' = y := by
        rw [List.getElem?_map] at hy
        exact Option.map_eq_some_iff.mp hy
      have rr := rr H' (Same.refl _)
      rw [hy'] at rr
      walk_at "rd"
      refine rd_two (fun cc => ?_) (fun cc => ?_)
      · rw [if_pos (by first | exact congrArg some cc | exact congrArg some (V.str.inj cc))] at rr
        walk_at "rd"
        exact rr
      · rw [if_neg (fun t => cc (by first | exact Option.some.inj t | exact congrArg V.str (Option.some.inj t))), List.getD_eq_getElem?_getD, hv] at rr
        walk_at "rd"
        exact rr
    have hMV : ∀ (i : Nat) (w' : V), (List.map (fun i => if xyzq[i]? = some x then V.ref pin else acc.getD i .non) (List.range (xyzq.map V.str).length))[i]? = some w' → ∃ a b p, (mvd x (u, z) xyzq ps)[i]? = some (a, b) ∧ w' = .ref p ∧ SqT K H19 p [.int a, .int b] := by
      intro i w' e
      rw [List.getElem?_map, List.length_map, lq] at e
      obtain ⟨i', hi', rfl⟩ := Option.map_eq_some_iff.mp e
      obtain ⟨hlt, ei⟩ := List.getElem?_eq_some_iff.mp hi'
      rw [List.getElem_range] at ei
      subst ei
      rw [List.length_range] at hlt
      obtain ⟨n, hn⟩ : ∃ n, xyzq[i]? = some n := ⟨_, List.getElem?_eq_getElem (by rw [lq]; exact hlt)⟩
      have hai : acc[i]? = some acc[i] := List.getElem?_eq_getElem (by rw [lacc]; exact hlt)
      obtain ⟨a, b, pq, e1, e2, e3⟩ := (hp18.keep (same_sqT s19)).get hai
      have e4 := mvd_at (q := (u, z)) (x := x) hn e1
      rw [hn]
      by_cases cc : n = x
      · rw [if_pos cc] at e4
        rw [if_pos (congrArg some cc)]
        exact ⟨u, z, pin, e4, rfl, sqT (s19 _ _ hin)⟩
      · rw [if_neg cc] at e4
        rw [if_neg (fun t => cc (Option.some.inj t)), List.getD_eq_getElem?_getD, hai]
        exact ⟨a, b, pq, e4, e2, e3⟩
    have lMV : (List.map (fun i => if xyzq[i]? = some x then V.ref pin else acc.getD i .non) (List.range (xyzq.map V.str).length)).length = 4 := by
      rw [List.length_map, List.length_range, List.length_map, lq]
    generalize List.map (fun i => if xyzq[i]? = some x then V.ref pin else acc.getD i .non) (List.range (xyzq.map V.str).length) = MV at g19 hMV lMV
    have lmv : (mvd x (u, z) xyzq ps).length = 4 := by rw [← hp2.len, lq]
    have hpm := prs_of (K := K) (H := H19) (by rw [lMV, lmv]) hMV
    clear hMV
    walk_at "rd"
    refine ⟨D19, _, rfl, .inl ⟨sqL g19, fun p20 n20 => ?_⟩⟩
    have s20 := Same.new n20 (.tup MV)
    have s1820 := s19.trans s20
    have gm20 : SqT K (upd H19 p20 (.tup MV)) p20 MV := sqT upd_same
    have hpm20 := hpm.keep (same_sqT s20)
    have hs20 := hs18.keep (Tk.of s1820)
    have ha20 := ha18.keep (Tk.of s1820)
    have g20 := s1820.seqT g18
    have h20 := s1820.seqT h18'
    have gp20 := s1820.seqT gp18
    have hp20 := hp18.keep (same_sqT s1820)
    have tb20 := tb18.ext s1820
    have m20 := m18.same s1820
    have k020 := k018.trans (KpN.of (Kp.of s1820))
    generalize upd H19 p20 (.tup MV) = H20 at gm20 hpm20 hs20 ha20 g20 h20 gp20 hp20 tb20 m20 k020
    clear s1820 s20 n20 s19 g19 hpm hs18 ha18 g18 h18' gp18 hp18 tb18 m18 k018 hin n19
    walk_at "rd"
    refine rd_ixT h20 (atI_nat (j := 1) rfl) ?_
    walk_at "rd"
    refine ⟨N, r, p15, p17, xyzq, acc, ps, rfl, ha20, by omega, by omega, g20, gp20, hp20, pt, fun _ pv H21 s21 h21 => ?_, fun i y hy hn _ => absurd (nin y (((names_leaves N [] y).mp (List.mem_of_getElem? hy)).elim (fun z => nomatch z) id)) hn⟩
    have c504 : cden ps ≤ 504 := Nat.le_of_dvd (by decide) cs.2
    walk_at "rd"
    refine rd_reprI _ h21 (low_small (vin N nin).1 (vin N nin).2 w0 (by rw [Int.natAbs_natCast]; exact Nat.lt_of_le_of_lt c504 (by decide))) (by show 2 ≤ 1000000; decide) ?_
    walk_at "rd"
    refine ⟨s, sv, p15, p20, xyzq, MV, mvd x (u, z) xyzq ps, rfl, hs20.keep (Tk.of s21), by omega, by omega, s21.seqT g20, s21.seqT gm20, hpm20.keep (same_sqT s21), hp2, fun _ pw H22 s22 h22 => ?_, fun i y hy hn _ => absurd (sin y (((names_leaves s [] y).mp (List.mem_of_getElem? hy)).elim (fun z => nomatch z) id)) hn⟩
    have cs2 := cden_small hp2.den _ (Nat.le_refl _)
    rw [List.take_length] at cs2
    have c504' : cden (mvd x (u, z) xyzq ps) ≤ 504 := Nat.le_of_dvd (by decide) cs2.2
    have w2 : (0 : Int) < cden (mvd x (u, z) xyzq ps) := by omega
    obtain ⟨x0, x1⟩ := vSay_in (f := fz (cden (mvd x (u, z) xyzq ps)) (xyzq.zip (mvd x (u, z) xyzq ps))) (W := cden (mvd x (u, z) xyzq ps)) (by omega) s fun y hy => hp2.bound (by omega) (sin y hy)
    walk_at "rd"
    refine rd_reprI _ h22 (low_small x0 x1 w2 (by rw [Int.natAbs_natCast]; exact Nat.lt_of_le_of_lt c504' (by decide))) (by show 2 ≤ 1000000; decide) ?_
    walk_at "rd"
    rw [eqN, decide_eq_true rfl]
    have s2022 := s21.trans s22
    exact q _ (k020.trans (KpN.of (Kp.of s2022))) ((m20.same s2022).mono (by omega)) (tb20.ext s2022)
end

/-! ### used several times is right -/
theorem use_words (s : Say) : ∀ n : Nat, (useS s (n + 1)).words + 1 = (n + 1) * (s.words + 1)
  | 0 => by
    show s.words + 1 = _
    omega
  | n + 1 => by
    have h := use_words s n
    show s.words + (useS s (n + 1)).words + 1 + 1 = (n + 1 + 1) * (s.words + 1)
    rw [Nat.add_mul (n + 1), Nat.one_mul, ← h]
    omega
theorem use_depth (s : Say) : ∀ n : Nat, (useS s (n + 1)).depth = s.depth + n
  | 0 => rfl
  | n + 1 => by
    have h := use_depth s n
    show max s.depth (useS s (n + 1)).depth + 1 = s.depth + (n + 1)
    rw [h]
    omega
theorem use_leaves (s : Say) : ∀ (n : Nat) (x : Str), x ∈ (useS s n).leaves → x ∈ s.leaves
  | 0, x, h => nomatch h
  | 1, x, h => h
  | n + 2, x, h => (List.mem_append.mp h).elim id (use_leaves s (n + 1) x)
theorem use_size (s : Say) (n : Nat) (h : n = 0 ∨ (n * (s.words + 1) ≤ 1001 ∧ s.depth + n ≤ 61)) : (useS s n).words ≤ 1000 ∧ (useS s n).depth ≤ 60 := by
  cases n with
  | zero => exact ⟨show 1 ≤ 1000 by decide, Nat.zero_le _⟩
  | succ n =>
    have h1 := use_words s n
    have h2 := use_depth s n
    omega
section
variable {P : Program} {K : PySem.W.Frag} {mg : Str → Option Value}
theorem used_great (T : Txt P K mg) {H : Hp} {s : Say} {v : V} {n : Nat} {z : Str} {Q : VK} (hs : SayAt H s v) (w1 : s.words ≤ 900) (d1 : s.depth ≤ 60) (n0 : 0 < n) (n1 : n ≤ 10 ^ 12)
    (hz : (n * (s.words + 1) > 1001 ∧ z = "words") ∨ ((n * (s.words + 1) ≤ 1001 ∧ s.depth + n > 61) ∧ z = "depth")) (h : ∀ (p : Addr) (H7 : Hp), Same H H7 → H7 p = some (.tup [.str "great", .str z]) → Q (.ref p) H7) :
    spUsed T.C_TooGreat ([v, .int (n : Int)] ++ []) H (fun v H1 => ([V.str "told", v] : List V).length ≤ sizeLine ∧ ∀ p, H1 p = none → ∃ u, some (some (V.ref p)) = some (some u) ∧ Q u (upd H1 p (.tup [.str "told", v]))) (wOut K Q (outs T)) := by
  have fin : ∀ y : Str, y = z → Told2 T.C_TooGreat H (wOut K Q (outs T)) y := by
    rintro y rfl d H1 s1 h1
    refine ⟨true, T.e_TooGreat_TooGreat, fun _ => ⟨rfl, d, _, _, rfl, h1, rfl, fun p np => ?_⟩, (fun z => nomatch z)⟩
    exact h p _ (s1.trans (Same.new np _)) upd_same
  refine ⟨s, v, n, rfl, hs, w1, d1, n1, fun c => ?_, fun _ c => fin _ ?_, fun _ c1 c2 => fin _ ?_⟩
  · rcases hz with ⟨a, _⟩ | ⟨⟨a, b⟩, _⟩ <;> omega
  · rcases hz with ⟨_, e⟩ | ⟨⟨a, b⟩, _⟩
    · exact e.symm
    · omega
  · rcases hz with ⟨a, _⟩ | ⟨_, e⟩
    · omega
    · exact e.symm
theorem used_fine (T : Txt P K mg) {H : Hp} {s : Say} {v : V} {n : Nat} {Q : VK} (hs : SayAt H s v) (w1 : s.words ≤ 900) (d1 : s.depth ≤ 60) (n1 : n ≤ 10 ^ 12)
    (c : n = 0 ∨ (n * (s.words + 1) ≤ 1001 ∧ s.depth + n ≤ 61)) (h : ∀ (p : Addr) (r : V) (H7 : Hp), Same H H7 → SayAt H7 (useS s n) r → H7 p = some (.tup [.str "told", r]) → Q (.ref p) H7) :
    spUsed T.C_TooGreat ([v, .int (n : Int)] ++ []) H (fun v H1 => ([V.str "told", v] : List V).length ≤ sizeLine ∧ ∀ p, H1 p = none → ∃ u, some (some (V.ref p)) = some (some u) ∧ Q u (upd H1 p (.tup [.str "told", v]))) (wOut K Q (outs T)) := by
  refine ⟨s, v, n, rfl, hs, w1, d1, n1, fun _ r H1 s1 a1 => ⟨by show 2 ≤ sizeLine; decide, fun p np => ⟨_, rfl, ?_⟩⟩, fun _ _ => by omega, fun _ _ _ => by omega⟩
  have s2 := Same.new np (.tup [V.str "told", r])
  exact h p r _ (s1.trans s2) (a1.keep (Tk.of s2)) upd_same
end
section
variable {P : Program} {w : World} {K : PySem.W.Frag} {mg : Str → Option Value} {base : Heap}
theorem sc_law_used_right : FnScope ["m", "saying", "count", "words", "depth", "far", "told", "due", "turn"] ["m"] (defScope s_law_used_right) := ⟨rfl, rfl, rfl, by decide +kernel, rfl, by decide +kernel, by decide +kernel⟩
theorem ok_law_used_right (T : Txt P K mg) (B_law_used_right : LamX.TabB base mg T.c_law_used_right T.P_law_used_right) {k : Nat} : FnG P w K mg base CX0 (k + 120) T.f_law_used_right T.d_law_used_right ["m"] (spRightV (tabsT T)) := by
  refine okGL T.F_law_used_right sc_law_used_right (fun vs H Q E h => ?_) (fun A outer s H vs Q E hr gd h => ?_)
  · obtain ⟨m, c, rfl, _⟩ := h
    rfl
  obtain ⟨m, c, rfl, hm, hc, ht, q⟩ := h
  refine ⟨_, (pss_cons (ps_set (i := 1) sc_law_used_right.nd rfl (Or.inr rfl) (pe_call (ok_law_saying_n T 20) hr (by rfl) T.g_law_saying T.F_law_saying.kp T.b_law_saying .nil pass0 (pa_cons (pv 0) (pa_cons (pe_lst (pa_cons pe_str (pa_cons pe_str pa_nil))) (pa_cons (pe_call (ok_law_of T) hr (by rfl) T.g_law_of T.F_law_of.kp T.b_law_of .nil pass0 (pa_cons (pv 0) (pa_cons (pe_lst (pa_cons pe_int (pa_cons pe_int (pa_cons pe_int (pa_cons pe_int (pa_cons pe_int pa_nil)))))) pa_nil))) pa_nil)))))
    (pss_cons (ps_set (i := 2) sc_law_used_right.nd rfl (Or.inr rfl) (pe_call (ok_law_of T) hr (by rfl) T.g_law_of T.F_law_of.kp T.b_law_of .nil pass0 (pa_cons (pv 0) (pa_cons (pe_lst (pa_cons pe_int (pa_cons pe_int (pa_cons pe_int (pa_cons pe_int (pa_cons (pe_call (ok_law_draw T) hr (by rfl) T.g_law_draw T.F_law_draw.kp T.b_law_draw .nil pass0 (pa_cons (pv 0) (pa_cons pe_int pa_nil))) (pa_cons (pe_call (ok_law_draw T) hr (by rfl) T.g_law_draw T.F_law_draw.kp T.b_law_draw .nil pass0 (pa_cons (pv 0) (pa_cons pe_int pa_nil))) (pa_cons (pe_op op_add pe_int (pe_call (ok_law_draw T) hr (by rfl) T.g_law_draw T.F_law_draw.kp T.b_law_draw .nil pass0 (pa_cons (pv 0) (pa_cons pe_int pa_nil)))) (pa_cons (pe_op op_pow pe_int pe_int) pa_nil))))))))) pa_nil))))
    (pss_cons (ps_asg (pe_call (ok_law_size T 100) hr (by rfl) T.g_law_size T.F_law_size.kp T.b_law_size .nil pass0 (pa_cons (pv 1) (pa_cons pe_str (pa_cons pe_int (pa_cons pe_int pa_nil))))) (pg_tup rfl (pgs_cons (pg_name (i := 3) sc_law_used_right.nd rfl (Or.inl rfl)) (pgs_cons (pg_name (i := 4) sc_law_used_right.nd rfl (Or.inl rfl)) pgs_nil))))
    (pss_cons (ps_set (i := 5) sc_law_used_right.nd rfl (Or.inl rfl) (pe_ifExp (pt_cmpR op_gt (pv 2) pe_int (by rfl)) (pe_call (ok_law_far T) hr (by rfl) T.g_law_far T.F_law_far.kp T.b_law_far .nil pass0 (pa_cons (pe_op op_sub (pe_op op_mulB (pv 2) (pe_op op_add (pv 3) pe_int)) pe_int) (pa_cons (pe_op op_sub (pe_op op_add (pv 4) (pv 2)) pe_int) pa_nil))) pe_non))
    (pss_cons (ps_set (i := 6) sc_law_used_right.nd rfl (Or.inl rfl) (pe_lam (T := tabsT T) (by rfl) T.g_law_outcome T.F_law_outcome T.b_law_outcome sc_law_outcome rfl (Or.inl rfl) (fun cdv => gives_outcome T rfl rfl _ cdv) B_law_used_right rfl (lamM_law_used_right T) (lamU_law_used_right T) hr (show LamX.LamS (defScope s_law_used_right) _ from LamX.lamS_by (by decide +kernel)) rfl (fun _ _ _ _ _ => rfl) (fun A outer s H E f c hrl => (pe_call (ok_used_times T) hrl (by rfl) T.g_used_times T.F_used_times.kp T.b_used_times .nil (passes_call (takes_of rfl rfl rfl rfl) fun _ _ _ _ h => h) (pa_cons (pv 1) (pa_cons (pv 2) pa_nil))))))
    (pss_cons (ps_if (pt_cmpR op_notN (pv 5) pe_non (by rfl)) (pss_one (ps_ret (pe_cmpR (eqDK K hr.units) (pv 6) (pe_tup (pa_cons pe_str (pa_cons (pv 5) pa_nil))) (by rfl)))) pss_nil)
    (pss_cons (ps_set (i := 7) sc_law_used_right.nd rfl (Or.inl rfl) (pe_tup (pa_cons pe_str pa_nil)))
    (pss_cons (ps_for PassesOwn.never rfl (pi_range1 rfl T.z_range (pa_cons (pv 2) pa_nil)) (pg_name (i := 8) sc_law_used_right.nd rfl (Or.inl rfl)) (pss_one (ps_set (i := 7) sc_law_used_right.nd rfl (Or.inl rfl) (pe_ifExp (pt_cmpR op_eq (pv 8) pe_int (by rfl)) (pv 1) (pe_tup (pa_cons pe_str (pa_cons (pv 1) (pa_cons (pv 7) pa_nil))))))))
    (pss_one (ps_ret (pe_cmpR op_eq (pe_callB (reprK K gd hr) (by rfl) T.z_repr (by decide +kernel) (pa_cons (pv 6) pa_nil)) (pe_callB (reprK K gd hr) (by rfl) T.z_repr (by decide +kernel) (pa_cons (pe_tup (pa_cons pe_str (pa_cons (pv 7) pa_nil))) pa_nil)) (by rfl)))))))))))), ?_⟩
  try dsimp only [L2.cxOf, L2.Cx.nox]
  obtain ⟨kvs, hmd⟩ := hm.dict
  walk_at "rd"
  refine ⟨by show 2 ≤ sizeLine; decide, fun p1 n1 => ?_⟩
  have s1 := Same.new n1 (.lst (xy2.map V.str))
  have g1 : (upd H p1 (.lst (xy2.map V.str))) p1 = some (.lst (xy2.map V.str)) := upd_same
  have m1 := hm.same s1
  walk_at "rd"
  refine ⟨by show 5 ≤ sizeLine; decide, fun p2 n2 => ?_⟩
  have s2 := Same.new n2 (.lst [V.int 0, V.int 0, V.int 1, V.int 3, V.int 6])
  have m2 := m1.same s2
  walk_at "rd"
  refine ⟨m, p2, _, _, rfl, m2, by omega, upd_same, List.cons_ne_nil _ _, by show 5 ≤ 1000; decide, fun v H3 hv k3 m3 => ?_⟩
  obtain ⟨size, rfl, hsz⟩ : ∃ size : Nat, v = .int (size : Int) ∧ size ≤ 6 := by
    simp only [List.mem_cons, List.not_mem_nil, or_false] at hv
    rcases hv with rfl | rfl | rfl | rfl | rfl
    · exact ⟨0, rfl, by decide⟩
    · exact ⟨0, rfl, by decide⟩
    · exact ⟨1, rfl, by decide⟩
    · exact ⟨3, rfl, by decide⟩
    · exact ⟨6, rfl, by decide⟩
  have g3 := m2.lst k3 (s2 _ _ g1)
  have k03 : Kp m H H3 := ((Kp.of s1).trans (Kp.of s2)).trans k3
  walk_at "rd"
  refine ⟨m, p1, _, size, xy2, rfl, m3, by omega, g3, (fun z => by unfold xy2 at z; cases z), by show 2 ≤ 100; decide, by omega, fun s sv H4 k4 m4 hs hle hmk hdp hwd => ?_⟩
  have k04 := k03.trans k4
  have m4 : MAt H4 m (c + 300) := m4.mono (by omega)
  clear hmk g3 g1 s1 s2 m1 m2 m3 k03 k3 n1 n2 hv
  walk_at "rd"
  refine ⟨m, _, 71, rfl, m4, by omega, by decide, by decide, fun r1 H5 r10 r11 k5 m5 => ?_⟩
  walk_at "rd"
  refine ⟨m, _, 71, rfl, m5, by omega, by decide, by decide, fun r2 H6 r20 r21 k6 m6 => ?_⟩
  walk_at "rd"
  refine ⟨m, _, 3, rfl, m6, by omega, by decide, by decide, fun r3 H7 r30 r31 k7 m7 => ?_⟩
  walk_at "rd"
  have k47 := (k5.trans k6).trans k7
  obtain ⟨kv4, md4⟩ := m4.dict
  have hs7 := hs.keep (Tk.kp k47 md4)
  have k07 := k04.trans k47
  clear k5 k6 k7 m5 m6 hs k47 k04 m4 md4
  refine ⟨by show 8 ≤ sizeLine; decide, fun p7 n7 => ?_⟩
  have s7 := Same.new n7 (.lst [V.int 0, V.int 1, V.int 2, V.int 3, V.int r1, V.int r2, V.int (60 + r3), V.int (10 ^ (12 : Int).toNat)])
  have m8 := m7.same s7
  walk_at "rd"
  refine ⟨m, p7, _, _, rfl, m8, by omega, upd_same, List.cons_ne_nil _ _, by show 8 ≤ 1000; decide, fun nv H8 hnv k8 m9 => ?_⟩
  obtain ⟨n, rfl, n1⟩ : ∃ n : Nat, nv = .int (n : Int) ∧ n ≤ 10 ^ 12 := by
    simp only [List.mem_cons, List.not_mem_nil, or_false] at hnv
    rcases hnv with rfl | rfl | rfl | rfl | rfl | rfl | rfl | rfl
    · exact ⟨0, rfl, by decide⟩
    · exact ⟨1, rfl, by decide⟩
    · exact ⟨2, rfl, by decide⟩
    · exact ⟨3, rfl, by decide⟩
    · exact ⟨r1.toNat, by rw [Int.toNat_of_nonneg r10], by omega⟩
    · exact ⟨r2.toNat, by rw [Int.toNat_of_nonneg r20], by omega⟩
    · exact ⟨(60 + r3).toNat, by rw [Int.toNat_of_nonneg (by omega)], by omega⟩
    · exact ⟨10 ^ 12, by congr 1, by decide⟩
  obtain ⟨kv8, md8⟩ := m8.dict
  have hs8 := (hs7.keep (Tk.of s7)).keep (Tk.kp k8 md8)
  have k08 := (k07.trans (Kp.of s7)).trans k8
  clear hnv s7 n7 m7 md8 m8 k07 hs7 k8 r10 r11 r20 r21 r30 r31
  walk_at "rd"
  refine ⟨s, sv, "", 1, 0, rfl, hs8, by omega, fun p9 H9 s9 h9 => ?_⟩
  rw [sz_one] at h9
  refine rd_gtup (sqT h9) rfl ?_
  have hs10 := hs8.keep (Tk.of s9)
  have m10 := m9.same s9
  have k010 := k08.trans (Kp.of s9)
  clear s9 h9 hs8 m9 k08
  have wb : s.words ≤ 900 := by omega
  have db : s.depth ≤ 60 := by omega
  have key : (n : Int) * ((s.words : Int) + 1) = ((n * (s.words + 1) : Nat) : Int) := by
    rw [Int.natCast_mul, Int.natCast_add]
    rfl
  walk_at "rd"
  refine rd_two (fun npos => ?_) (fun nneg => ?_)
  · have n0 : 0 < n := by omega
    walk_at "rd"
    refine rd_i (mulB_ok (Nat.lt_of_le_of_lt (show ((n : Nat) : Int).natAbs ≤ 10 ^ 12 by omega) (by decide)) (Nat.lt_of_le_of_lt (show ((s.words : Int) + 1).natAbs ≤ 901 by omega) (by decide))) ?_
    walk_at "rd"
    rw [key]
    refine far_out (fun z hz => ?_) (fun c1 c2 => ?_)
    · have hz2 : (n * (s.words + 1) > 1001 ∧ z = "words") ∨ ((n * (s.words + 1) ≤ 1001 ∧ s.depth + n > 61) ∧ z = "depth") := by
        rcases hz with ⟨a, b⟩ | ⟨a, b, e⟩
        · exact .inl ⟨by omega, b⟩
        · exact .inr ⟨⟨by omega, by omega⟩, e⟩
      have hz3 : ((n * (s.words + 1) > 1001) ∧ z = "words") ∨ (True ∧ z = "depth") := hz2.imp id fun t => ⟨trivial, t.2⟩
      walk_at "rd"
      refine rd_lam (TabsKp ht k010 hmd) fun H11 ex tb => rd_out ?_
      walk_at "rd"
      refine used_great T (hs10.keep (Tk.ofN ex)) wb db n0 n1 hz2 fun p H12 s12 h12 => ?_
      obtain ⟨sm, dp⟩ := great_ok hz3
      walk_at "rd"
      refine ⟨rfl, ?_⟩
      walk_at "rd"
      rw [decide_eq_false (fun y => nomatch y)]
      refine iteT ?_
      walk_at "rd"
      refine ⟨by show 2 ≤ sizeLine; decide, fun p13 n13 => ?_⟩
      have s13 := Same.new n13 (.tup [V.str (Str.ofString "great"), V.str z])
      refine rd_eqD (.tup (sqT (s13 _ _ h12)) (dp_strs K _ [Str.ofString "great", z])) (.tup (sqT upd_same) (dp_strs K _ [Str.ofString "great", z])) sm sm dp dp ?_
      rw [SeqAt.eqv_refl _ (small_lay _ sm)]
      have zz := s12.trans s13
      exact q _ (((KpN.of k010).trans (ExtN.kp ex)).trans (KpN.of (Kp.of zz))) (((m10.ext ex).same zz).mono (by omega)) (tb.ext zz)
    · have fin1 : n = 0 ∨ (n * (s.words + 1) ≤ 1001 ∧ s.depth + n ≤ 61) := .inr ⟨by omega, by omega⟩
      have n62 : n ≤ 61 := by omega
      walk_at "rd"
      refine rd_lam (TabsKp ht k010 hmd) fun H11 ex tb => rd_out ?_
      walk_at "rd"
      have m11 := m10.ext ex
      have k11 : KpN m H H11 := (KpN.of k010).trans (ExtN.kp ex)
      have hs11 := hs10.keep (Tk.ofN ex)
      refine used_fine T hs11 wb db n1 (fin1) fun p r H12 s12 ha h12 => ?_
      have hs12 := hs11.keep (Tk.of s12)
      have m12 := m11.same s12
      have k12 := k11.trans (KpN.of (Kp.of s12))
      have tb12 := tb.ext s12
      clear hs11 m11 k11 tb s12 ex hs10 m10 k010 H11
      walk_at "rd"
      refine ⟨rfl, ?_⟩
      walk_at "rd"
      rw [decide_eq_true rfl]
      refine iteF ?_
      walk_at "rd"
      refine ⟨by show 1 ≤ sizeLine; decide, fun p13 n13 => ?_⟩
      have s13 := Same.new n13 (.tup [V.str (Str.ofString "yes")])
      have e13 : (upd H12 p13 (.tup [V.str (Str.ofString "yes")])) p13 = some (.tup [V.str (Str.ofString "yes")]) := upd_same
      generalize upd H12 p13 (.tup [V.str (Str.ofString "yes")]) = H13 at s13 e13
      walk_at "rd"
      refine rd_atR (by omega) (by omega) (forR (n := ((n : Int)).toNat) (lo := 0) (fun i σ H' => ∃ (r' : V) (y : Option V), σ = [some (.ref m), some sv, some (.int (n : Int)), some (.int (s.words : Int)), some (.int (s.depth : Int)), some .non, some (.ref p), some r', y] ∧ Same H12 H' ∧ SayAt H' (useS s i) r') ⟨.ref p13, none, rfl, s13, ⟨p13, rfl, e13⟩⟩ ?_ ?_)
      · rintro i σ H' hi ⟨r', y, rfl, z, a⟩
        walk_at "rd"
        refine rd_ints (fun e => ?_) (fun e => ?_)
        · have i0 : i = 0 := by omega
          subst i0
          walk_at "rd"
          exact ⟨sv, _, rfl, z, hs12.keep (Tk.of z)⟩
        · walk_at "rd"
          refine ⟨by show 3 ≤ sizeLine; decide, fun p3 np => ?_⟩
          have s3 := Same.new np (.tup [V.str (Str.ofString "times"), sv, r'])
          obtain ⟨j, rfl⟩ : ∃ j, i = j + 1 := ⟨i - 1, by omega⟩
          exact ⟨.ref p3, _, rfl, z.trans s3, p3, sv, r', rfl, upd_same, hs12.keep (Tk.of (z.trans s3)), a.keep (Tk.of s3)⟩
      · rintro σ H' ⟨r', y, rfl, z, a⟩
        rw [Int.toNat_natCast] at a
        obtain ⟨wN, dN⟩ := use_size s n (fin1)
        have nl : ∀ y ∈ (useS s n).leaves, okName y := fun y hy => xyz_ok y (xy_xyz y (hle y (use_leaves s n y hy)))
        have smN := say_small (useS s n) nl
        have bkN := say_bulk (useS s n) nl
        have dpN := say_depth (useS s n)
        generalize useS s n = N at ha smN bkN dpN wN dN a
        have smT : smallD (.tuple [.str (Str.ofString "told"), N.data]) = true := by
          rw [smallD, smallDs, smallDs, smallDs, smallD, smN]
          decide +kernel
        have bkT : (PyData.tuple [.str (Str.ofString "told"), N.data]).bulk ≤ 1000000 := by
          rw [PyData.bulk, PyData.bulkAll, PyData.bulkAll, PyData.bulkAll, PyData.bulk]
          show 4 + 1 + (N.data.bulk + 1 + 0) ≤ 1000000
          omega
        have dpT : (PyData.tuple [.str (Str.ofString "told"), N.data]).depth ≤ 150 := by
          rw [PyData.depth, PyData.depthAll, PyData.depthAll, PyData.depthAll, PyData.depth, dpN]
          omega
        have ha' := ha.keep (Tk.of z)
        walk_at "rd"
        refine rd_repr (.tup (sqT (z _ _ h12)) (.cons (.str _) (.cons (ha'.dp K) .nil))) smT bkT dpT ?_
        walk_at "rd"
        refine ⟨by show 2 ≤ sizeLine; decide, fun p14 n14 => ?_⟩
        have s14 := Same.new n14 (.tup [V.str (Str.ofString "told"), r'])
        walk_at "rd"
        refine rd_repr (.tup (sqT upd_same) (.cons (.str _) (.cons ((a.keep (Tk.of s14)).dp K) .nil))) smT bkT dpT ?_
        walk_at "rd"
        rw [decide_eq_true rfl]
        have zz := z.trans s14
        exact q _ (k12.trans (KpN.of (Kp.of zz))) ((m12.same zz).mono (by omega)) (tb12.ext zz)
  · have n62 : n ≤ 61 := by omega
    have fin1 : n = 0 ∨ (n * (s.words + 1) ≤ 1001 ∧ s.depth + n ≤ 61) := .inl (by omega)
    walk_at "rd"
    refine rd_lam (TabsKp ht k010 hmd) fun H11 ex tb => rd_out ?_
    walk_at "rd"
    have m11 := m10.ext ex
    have k11 : KpN m H H11 := (KpN.of k010).trans (ExtN.kp ex)
    have hs11 := hs10.keep (Tk.ofN ex)
    refine used_fine T hs11 wb db n1 (fin1) fun p r H12 s12 ha h12 => ?_
    have hs12 := hs11.keep (Tk.of s12)
    have m12 := m11.same s12
    have k12 := k11.trans (KpN.of (Kp.of s12))
    have tb12 := tb.ext s12
    clear hs11 m11 k11 tb s12 ex hs10 m10 k010 H11
    walk_at "rd"
    refine ⟨rfl, ?_⟩
    walk_at "rd"
    rw [decide_eq_true rfl]
    refine iteF ?_
    walk_at "rd"
    refine ⟨by show 1 ≤ sizeLine; decide, fun p13 n13 => ?_⟩
    have s13 := Same.new n13 (.tup [V.str (Str.ofString "yes")])
    have e13 : (upd H12 p13 (.tup [V.str (Str.ofString "yes")])) p13 = some (.tup [V.str (Str.ofString "yes")]) := upd_same
    generalize upd H12 p13 (.tup [V.str (Str.ofString "yes")]) = H13 at s13 e13
    walk_at "rd"
    refine rd_atR (by omega) (by omega) (forR (n := ((n : Int)).toNat) (lo := 0) (fun i σ H' => ∃ (r' : V) (y : Option V), σ = [some (.ref m), some sv, some (.int (n : Int)), some (.int (s.words : Int)), some (.int (s.depth : Int)), some .non, some (.ref p), some r', y] ∧ Same H12 H' ∧ SayAt H' (useS s i) r') ⟨.ref p13, none, rfl, s13, ⟨p13, rfl, e13⟩⟩ ?_ ?_)
    · rintro i σ H' hi ⟨r', y, rfl, z, a⟩
      walk_at "rd"
      refine rd_ints (fun e => ?_) (fun e => ?_)
      · have i0 : i = 0 := by omega
        subst i0
        walk_at "rd"
        exact ⟨sv, _, rfl, z, hs12.keep (Tk.of z)⟩
      · walk_at "rd"
        refine ⟨by show 3 ≤ sizeLine; decide, fun p3 np => ?_⟩
        have s3 := Same.new np (.tup [V.str (Str.ofString "times"), sv, r'])
        obtain ⟨j, rfl⟩ : ∃ j, i = j + 1 := ⟨i - 1, by omega⟩
        exact ⟨.ref p3, _, rfl, z.trans s3, p3, sv, r', rfl, upd_same, hs12.keep (Tk.of (z.trans s3)), a.keep (Tk.of s3)⟩
    · rintro σ H' ⟨r', y, rfl, z, a⟩
      rw [Int.toNat_natCast] at a
      obtain ⟨wN, dN⟩ := use_size s n (fin1)
      have nl : ∀ y ∈ (useS s n).leaves, okName y := fun y hy => xyz_ok y (xy_xyz y (hle y (use_leaves s n y hy)))
      have smN := say_small (useS s n) nl
      have bkN := say_bulk (useS s n) nl
      have dpN := say_depth (useS s n)
      generalize useS s n = N at ha smN bkN dpN wN dN a
      have smT : smallD (.tuple [.str (Str.ofString "told"), N.data]) = true := by
        rw [smallD, smallDs, smallDs, smallDs, smallD, smN]
        decide +kernel
      have bkT : (PyData.tuple [.str (Str.ofString "told"), N.data]).bulk ≤ 1000000 := by
        rw [PyData.bulk, PyData.bulkAll, PyData.bulkAll, PyData.bulkAll, PyData.bulk]
        show 4 + 1 + (N.data.bulk + 1 + 0) ≤ 1000000
        omega
      have dpT : (PyData.tuple [.str (Str.ofString "told"), N.data]).depth ≤ 150 := by
        rw [PyData.depth, PyData.depthAll, PyData.depthAll, PyData.depthAll, PyData.depth, dpN]
        omega
      have ha' := ha.keep (Tk.of z)
      walk_at "rd"
      refine rd_repr (.tup (sqT (z _ _ h12)) (.cons (.str _) (.cons (ha'.dp K) .nil))) smT bkT dpT ?_
      walk_at "rd"
      refine ⟨by show 2 ≤ sizeLine; decide, fun p14 n14 => ?_⟩
      have s14 := Same.new n14 (.tup [V.str (Str.ofString "told"), r'])
      walk_at "rd"
      refine rd_repr (.tup (sqT upd_same) (.cons (.str _) (.cons ((a.keep (Tk.of s14)).dp K) .nil))) smT bkT dpT ?_
      walk_at "rd"
      rw [decide_eq_true rfl]
      have zz := z.trans s14
      exact q _ (k12.trans (KpN.of (Kp.of zz))) ((m12.same zz).mono (by omega)) (tb12.ext zz)
end

def spLaw (K : PySem.W.Frag) (tabs : List (Addr × Str)) : Sp := fun vs H Q _ => ∃ (a : Addr) (ns : List Int), vs = [.ref a] ∧ SqL K H a (ns.map V.int) ∧ ns.length ≤ 63 ∧ (∀ z ∈ ns, Builtin.Int.intBits z ≤ 1048576) ∧ LamX.Tabs tabs H ∧ ∀ H' : Hp, Q (.bl true) H'
theorem ext_kpN {H H1 H2 : Hp} {m : Addr} (s : LamX.ExtN H H1) (h : H m = none) (k : KpN m H1 H2) : LamX.ExtN H H2 := fun b o e n => k b o (fun z => by rw [z, h] at e; cases e) (s b o e n) n
theorem ext_free {H H1 : Hp} {m : Addr} (s : LamX.ExtN H H1) (t : ∀ p, H m = some p → ∀ ps, p ≠ .tbl ps) (h : H1 m = none) : H m = none := by
  cases z : H m with
  | none => rfl
  | some o =>
    rw [s _ _ z (t o z)] at h
    cases h
section
variable {P : Program} {w : World} {K : PySem.W.Frag} {mg : Str → Option Value} {base : Heap}
theorem sc_law : FnScope ["script", "k", "m"] ["script"] (defScope s_law) := ⟨rfl, rfl, rfl, by decide +kernel, rfl, by decide +kernel, by decide +kernel⟩
theorem ok_law (T : Txt P K mg) (B_law_put_right : LamX.TabB base mg T.c_law_put_right T.P_law_put_right) (B_law_used_right : LamX.TabB base mg T.c_law_used_right T.P_law_used_right) {k : Nat} {f : Addr} {fd : FuncData} (F : Fun K "law" "law" s_law f fd) : FnG P w K mg base CX0 (k + 122) f fd ["script"] (spLaw K (tabsT T)) := by
  refine okG F sc_law (fun vs H Q E h => ?_) (fun cdv A outer s H vs Q E hr gd h => ?_)
  · obtain ⟨a, ns, rfl, _⟩ := h
    rfl
  obtain ⟨a, ns, rfl, ha, hl, hb, ht, q⟩ := h
  refine ⟨_, (pss_cons (ps_for PassesOwn.never rfl (pi_range1 rfl T.z_range (pa_cons (pe_op op_add pe_int (pe_callB (call_min2 rfl) (by rfl) T.z_min (by decide +kernel) (pa_cons (pe_callB (len_seqK K) (by rfl) T.z_len (by decide +kernel) (pa_cons (pv 0) pa_nil)) (pa_cons pe_int pa_nil)))) pa_nil)) (pg_name (i := 1) sc_law.nd rfl (Or.inl rfl)) (pss_cons (ps_set (i := 2) sc_law.nd rfl (Or.inl rfl) (pe_call (ok_law_begun T) hr (by rfl) T.g_law_begun T.F_law_begun.kp T.b_law_begun .nil pass0 (pa_cons (pv 0) (pa_cons (pv 1) pa_nil))))
    (pss_one (ps_if (PW.pt (pw_or (pt_not (pt_val (pe_callG (ok_law_put_right T B_law_put_right) hr gd (by rfl) T.g_law_put_right T.F_law_put_right.kp T.b_law_put_right .nil pass0 (pa_cons (pv 2) pa_nil)))) (pw_or1 (pt_not (pt_val (pe_callG (ok_law_used_right T B_law_used_right) hr gd (by rfl) T.g_law_used_right T.F_law_used_right.kp T.b_law_used_right .nil pass0 (pa_cons (pv 2) pa_nil))))))) (pss_one (ps_ret pe_bl)) pss_nil))))
    (pss_one (ps_ret pe_bl))), ?_⟩
  try dsimp only [L2.cxOf, L2.Cx.nox]
  have keepL : ∀ H', LamX.ExtN H H' → SqL K H' a (ns.map V.int) := fun H' s => by
    rcases ha with (ha | ⟨o, ha⟩) | ha
    · exact .inl (.inl (s _ _ ha fun ps z => nomatch z))
    · exact .inl (.inr ⟨o, s _ _ ha fun ps z => nomatch z⟩)
    · exact .inr ha
  walk_at "rd"
  refine rd_len (.inl ha) ?_
  walk_at "rd"
  rw [List.length_map]
  obtain ⟨n, hn, hn2⟩ : ∃ n : Nat, 1 + (if (1 : Int) < (ns.length : Int) then 1 else (ns.length : Int)) = (n : Int) ∧ n ≤ 2 := by
    by_cases c : (1 : Int) < (ns.length : Int)
    · exact ⟨2, by rw [if_pos c]; rfl, Nat.le_refl _⟩
    · exact ⟨1 + ns.length, by rw [if_neg c]; omega, by omega⟩
  rw [hn]
  refine rd_atR (by omega) (by omega) (forR (n := (n : Int).toNat) (lo := 0) (fun i σ H' => ∃ y1 y2 : Option V, σ = [some (.ref a), y1, y2] ∧ LamX.ExtN H H' ∧ LamX.Tabs (tabsT T) H') ⟨_, _, rfl, LamX.ExtN.refl _, ht⟩ ?_ ?_)
  · rintro i σ H1 hi ⟨y1, y2, rfl, x1, t1⟩
    walk_at "rd"
    refine ⟨a, ns, _, rfl, keepL _ x1, hl, by omega, by omega, fun m H2 s2 nm m2 => ?_⟩
    have x2 : LamX.ExtN H H2 := x1.trans (ExtN.same s2)
    have t2 := t1.ext s2
    obtain ⟨kvs, md2⟩ := m2.dict
    -- what stands at m is new: H knows nothing of it but, at most, a table
    have low : ∀ H' : Hp, KpN m H2 H' → LamX.ExtN H H' := fun H' k b o e no => by
      by_cases c : b = m
      · subst c
        have e1 := x1 _ _ e no
        rw [nm] at e1
        cases e1
      · exact k b o c (x2 b o e no) no
    walk_at "rd"
    refine ⟨m, 0, rfl, m2, by omega, t2, fun H3 k3 m3 t3 => ?_⟩
    walk_at "rd"
    refine iteF ?_
    walk_at "rd"
    refine ⟨m, _, rfl, m3, by omega, t3, fun H4 k4 m4 t4 => ?_⟩
    walk_at "rd"
    refine iteF ?_
    walk_at "rd"
    exact ⟨_, _, rfl, low H4 (k3.trans k4), t4⟩
  · rintro σ H1 ⟨y1, y2, rfl, x1, t1⟩
    walk_at "rd"
    exact q H1
end

theorem exm_of {K : PySem.W.Frag} {cls : Value} {D : Addr} {b : Bool} (hc : (PySem.W.clsIn K D).isSome = true) (ht : PySem.W.typeIn K (.ref D) = some (.type "type")) (hb : PySem.W.subIn K (.ref D) (.type "BaseException") = some true)
    (e : PySem.W.subIn K cls (.ref D) = some b) : PySem.W.exmOne K cls (.ref D) = some b := by
  unfold PySem.W.exmOne
  rw [hb, if_pos (by decide)]
  unfold PySem.W.kitCls
  dsimp only
  rw [hc, ht, if_pos (by decide)]
  exact e
theorem clsIn_exc {K : PySem.W.Frag} {nm q : Str} {C N : Addr} {bs bm : List Value} {hdct : Bool} {sn : List Str} {sub : List Value} {ab : Bool} {col : Option Bool} {dd : Option Addr} {k0 k1 k2 k3 k5 : Option Value} {newId : String}
    (h : K.lookup C = some (excClassObj nm q C N bs bm hdct sn sub ab col dd k0 k1 k2 k3 k5 newId)) : (PySem.W.clsIn K C).isSome = true := by
  unfold PySem.W.clsIn
  rw [h]
  rfl

theorem all_mk {l : PySem.W.OpenLaw} {qv : Program} {w : World} {K : PySem.W.Frag} {h : Heap} {mg : Str → Option Value} {fa f1 f2 f3 f4 f5 f6 f7 f8 f9 f10 f11 f12 f13 f14 f15 f16 f17 f18 f19 f20 f21 f22 f23 f24 f25 f26 f27 f28 f29 : Addr} (X : K.In h) (G : h.Ns mainGlobals mg) (hfa : mg "law" = some (.ref fa))
    {od1 an1 od2 an2 od3 an3 od4 an4 od5 an5 od6 an6 od7 an7 od8 an8 od9 an9 od10 an10 od11 an11 od12 an12 od13 an13 od14 an14 od15 an15 od16 an16 od17 an17 od18 an18 od19 an19 od20 an20 od21 an21 od22 an22 od23 an23 od24 an24 od25 an25 od26 an26 od27 an27 od28 an28 od29 an29 : Option Addr} {sl1 sl2 sl3 sl4 sl5 sl6 sl7 sl8 sl9 sl10 sl11 sl12 sl13 sl14 sl15 sl16 sl17 sl18 sl19 sl20 sl21 sl22 sl23 sl24 sl25 sl26 sl27 sl28 sl29 : Array (Option Value)}
    {oc1 kV1 dc1 pm1 cd1 ct1 oc2 kV2 dc2 pm2 cd2 ct2 oc3 kV3 dc3 pm3 cd3 ct3 oc4 kV4 dc4 pm4 cd4 ct4 oc5 kV5 dc5 pm5 cd5 ct5 oc6 kV6 dc6 pm6 cd6 ct6 oc7 kV7 dc7 pm7 cd7 ct7 oc8 kV8 dc8 pm8 cd8 ct8 oc9 kV9 dc9 pm9 cd9 ct9 oc10 kV10 dc10 pm10 cd10 ct10 oc11 kV11 dc11 pm11 cd11 ct11 oc12 kV12 dc12 pm12 cd12 ct12 oc13 kV13 dc13 pm13 cd13 ct13 oc14 kV14 dc14 pm14 cd14 ct14 oc15 kV15 dc15 pm15 cd15 ct15 oc16 kV16 dc16 pm16 cd16 ct16 oc17 kV17 dc17 pm17 cd17 ct17 oc18 kV18 dc18 pm18 cd18 ct18 oc19 kV19 dc19 pm19 cd19 ct19 oc20 kV20 dc20 pm20 cd20 ct20 oc21 kV21 dc21 pm21 cd21 ct21 oc22 kV22 dc22 pm22 cd22 ct22 oc23 kV23 dc23 pm23 cd23 ct23 oc24 kV24 dc24 pm24 cd24 ct24 oc25 kV25 dc25 pm25 cd25 ct25 oc26 kV26 dc26 pm26 cd26 ct26 oc27 kV27 dc27 pm27 ct27 oc28 kV28 dc28 pm28 ct28 oc29 kV29 dc29 pm29 cd29 ct29 : Value}
    (a1 : PySem.W.nsIn K mainGlobals "parts_of" = some (some (.ref f1)))
    (l1 : K.lookup f1 = some ⟨oc1, od1, .func (PySem.W.fnOf "parts_of" "parts_of" (defArgs s_parts_of) (defBody s_parts_of) (defScope s_parts_of) .none kV1 dc1 pm1 an1 cd1 ct1), sl1⟩)
    (c1 : PySem.W.codeIn K cd1 "parts_of" = true) (k1 : PySem.W.keepIn K (.ref f1) = true)
    (a2 : PySem.W.nsIn K mainGlobals "all_words" = some (some (.ref f2)))
    (l2 : K.lookup f2 = some ⟨oc2, od2, .func (PySem.W.fnOf "all_words" "all_words" (defArgs s_all_words) (defBody s_all_words) (defScope s_all_words) .none kV2 dc2 pm2 an2 cd2 ct2), sl2⟩)
    (c2 : PySem.W.codeIn K cd2 "all_words" = true) (k2 : PySem.W.keepIn K (.ref f2) = true)
    (a3 : PySem.W.nsIn K mainGlobals "words_in" = some (some (.ref f3)))
    (l3 : K.lookup f3 = some ⟨oc3, od3, .func (PySem.W.fnOf "words_in" "words_in" (defArgs s_words_in) (defBody s_words_in) (defScope s_words_in) .none kV3 dc3 pm3 an3 cd3 ct3), sl3⟩)
    (c3 : PySem.W.codeIn K cd3 "words_in" = true) (k3 : PySem.W.keepIn K (.ref f3) = true)
    (a4 : PySem.W.nsIn K mainGlobals "depth_of" = some (some (.ref f4)))
    (l4 : K.lookup f4 = some ⟨oc4, od4, .func (PySem.W.fnOf "depth_of" "depth_of" (defArgs s_depth_of) (defBody s_depth_of) (defScope s_depth_of) .none kV4 dc4 pm4 an4 cd4 ct4), sl4⟩)
    (c4 : PySem.W.codeIn K cd4 "depth_of" = true) (k4 : PySem.W.keepIn K (.ref f4) = true)
    (a5 : PySem.W.nsIn K mainGlobals "unknowns_of" = some (some (.ref f5)))
    (l5 : K.lookup f5 = some ⟨oc5, od5, .func (PySem.W.fnOf "unknowns_of" "unknowns_of" (defArgs s_unknowns_of) (defBody s_unknowns_of) (defScope s_unknowns_of) .none kV5 dc5 pm5 an5 cd5 ct5), sl5⟩)
    (c5 : PySem.W.codeIn K cd5 "unknowns_of" = true) (k5 : PySem.W.keepIn K (.ref f5) = true)
    (a6 : PySem.W.nsIn K mainGlobals "occurrences" = some (some (.ref f6)))
    (l6 : K.lookup f6 = some ⟨oc6, od6, .func (PySem.W.fnOf "occurrences" "occurrences" (defArgs s_occurrences) (defBody s_occurrences) (defScope s_occurrences) .none kV6 dc6 pm6 an6 cd6 ct6), sl6⟩)
    (c6 : PySem.W.codeIn K cd6 "occurrences" = true) (k6 : PySem.W.keepIn K (.ref f6) = true)
    (a7 : PySem.W.nsIn K mainGlobals "put_for" = some (some (.ref f7)))
    (l7 : K.lookup f7 = some ⟨oc7, od7, .func (PySem.W.fnOf "put_for" "put_for" (defArgs s_put_for) (defBody s_put_for) (defScope s_put_for) .none kV7 dc7 pm7 an7 cd7 ct7), sl7⟩)
    (c7 : PySem.W.codeIn K cd7 "put_for" = true) (k7 : PySem.W.keepIn K (.ref f7) = true)
    (a8 : PySem.W.nsIn K mainGlobals "_changed" = some (some (.ref f8)))
    (l8 : K.lookup f8 = some ⟨oc8, od8, .func (PySem.W.fnOf "_changed" "_changed" (defArgs s_changed) (defBody s_changed) (defScope s_changed) .none kV8 dc8 pm8 an8 cd8 ct8), sl8⟩)
    (c8 : PySem.W.codeIn K cd8 "_changed" = true) (k8 : PySem.W.keepIn K (.ref f8) = true)
    (a9 : PySem.W.nsIn K mainGlobals "used_times" = some (some (.ref f9)))
    (l9 : K.lookup f9 = some ⟨oc9, od9, .func (PySem.W.fnOf "used_times" "used_times" (defArgs s_used_times) (defBody s_used_times) (defScope s_used_times) .none kV9 dc9 pm9 an9 cd9 ct9), sl9⟩)
    (c9 : PySem.W.codeIn K cd9 "used_times" = true) (k9 : PySem.W.keepIn K (.ref f9) = true)
    (a10 : PySem.W.nsIn K mainGlobals "lowest_terms" = some (some (.ref f10)))
    (l10 : K.lookup f10 = some ⟨oc10, od10, .func (PySem.W.fnOf "lowest_terms" "lowest_terms" (defArgs s_lowest_terms) (defBody s_lowest_terms) (defScope s_lowest_terms) .none kV10 dc10 pm10 an10 cd10 ct10), sl10⟩)
    (c10 : PySem.W.codeIn K cd10 "lowest_terms" = true) (k10 : PySem.W.keepIn K (.ref f10) = true)
    (a11 : PySem.W.nsIn K mainGlobals "fraction" = some (some (.ref f11)))
    (l11 : K.lookup f11 = some ⟨oc11, od11, .func (PySem.W.fnOf "fraction" "fraction" (defArgs s_fraction) (defBody s_fraction) (defScope s_fraction) .none kV11 dc11 pm11 an11 cd11 ct11), sl11⟩)
    (c11 : PySem.W.codeIn K cd11 "fraction" = true) (k11 : PySem.W.keepIn K (.ref f11) = true)
    (a12 : PySem.W.nsIn K mainGlobals "denominator_of" = some (some (.ref f12)))
    (l12 : K.lookup f12 = some ⟨oc12, od12, .func (PySem.W.fnOf "denominator_of" "denominator_of" (defArgs s_denominator_of) (defBody s_denominator_of) (defScope s_denominator_of) .none kV12 dc12 pm12 an12 cd12 ct12), sl12⟩)
    (c12 : PySem.W.codeIn K cd12 "denominator_of" = true) (k12 : PySem.W.keepIn K (.ref f12) = true)
    (a13 : PySem.W.nsIn K mainGlobals "number_given" = some (some (.ref f13)))
    (l13 : K.lookup f13 = some ⟨oc13, od13, .func (PySem.W.fnOf "number_given" "number_given" (defArgs s_number_given) (defBody s_number_given) (defScope s_number_given) .none kV13 dc13 pm13 an13 cd13 ct13), sl13⟩)
    (c13 : PySem.W.codeIn K cd13 "number_given" = true) (k13 : PySem.W.keepIn K (.ref f13) = true)
    (a14 : PySem.W.nsIn K mainGlobals "number_of" = some (some (.ref f14)))
    (l14 : K.lookup f14 = some ⟨oc14, od14, .func (PySem.W.fnOf "number_of" "number_of" (defArgs s_number_of) (defBody s_number_of) (defScope s_number_of) .none kV14 dc14 pm14 an14 cd14 ct14), sl14⟩)
    (c14 : PySem.W.codeIn K cd14 "number_of" = true) (k14 : PySem.W.keepIn K (.ref f14) = true)
    (a15 : PySem.W.nsIn K mainGlobals "numbers_for" = some (some (.ref f15)))
    (l15 : K.lookup f15 = some ⟨oc15, od15, .func (PySem.W.fnOf "numbers_for" "numbers_for" (defArgs s_numbers_for) (defBody s_numbers_for) (defScope s_numbers_for) .none kV15 dc15 pm15 an15 cd15 ct15), sl15⟩)
    (c15 : PySem.W.codeIn K cd15 "numbers_for" = true) (k15 : PySem.W.keepIn K (.ref f15) = true)
    (a16 : PySem.W.nsIn K mainGlobals "check_names" = some (some (.ref f16)))
    (l16 : K.lookup f16 = some ⟨oc16, od16, .func (PySem.W.fnOf "check_names" "check_names" (defArgs s_check_names) (defBody s_check_names) (defScope s_check_names) .none kV16 dc16 pm16 an16 cd16 ct16), sl16⟩)
    (c16 : PySem.W.codeIn K cd16 "check_names" = true) (k16 : PySem.W.keepIn K (.ref f16) = true)
    (a17 : PySem.W.nsIn K mainGlobals "value_at" = some (some (.ref f17)))
    (l17 : K.lookup f17 = some ⟨oc17, od17, .func (PySem.W.fnOf "value_at" "value_at" (defArgs s_value_at) (defBody s_value_at) (defScope s_value_at) .none kV17 dc17 pm17 an17 cd17 ct17), sl17⟩)
    (c17 : PySem.W.codeIn K cd17 "value_at" = true) (k17 : PySem.W.keepIn K (.ref f17) = true)
    (a18 : PySem.W.nsIn K mainGlobals "_law_begun" = some (some (.ref f18)))
    (l18 : K.lookup f18 = some ⟨oc18, od18, .func (PySem.W.fnOf "_law_begun" "_law_begun" (defArgs s_law_begun) (defBody s_law_begun) (defScope s_law_begun) .none kV18 dc18 pm18 an18 cd18 ct18), sl18⟩)
    (c18 : PySem.W.codeIn K cd18 "_law_begun" = true) (k18 : PySem.W.keepIn K (.ref f18) = true)
    (a19 : PySem.W.nsIn K mainGlobals "_law_draw" = some (some (.ref f19)))
    (l19 : K.lookup f19 = some ⟨oc19, od19, .func (PySem.W.fnOf "_law_draw" "_law_draw" (defArgs s_law_draw) (defBody s_law_draw) (defScope s_law_draw) .none kV19 dc19 pm19 an19 cd19 ct19), sl19⟩)
    (c19 : PySem.W.codeIn K cd19 "_law_draw" = true) (k19 : PySem.W.keepIn K (.ref f19) = true)
    (a20 : PySem.W.nsIn K mainGlobals "_law_of" = some (some (.ref f20)))
    (l20 : K.lookup f20 = some ⟨oc20, od20, .func (PySem.W.fnOf "_law_of" "_law_of" (defArgs s_law_of) (defBody s_law_of) (defScope s_law_of) .none kV20 dc20 pm20 an20 cd20 ct20), sl20⟩)
    (c20 : PySem.W.codeIn K cd20 "_law_of" = true) (k20 : PySem.W.keepIn K (.ref f20) = true)
    (a21 : PySem.W.nsIn K mainGlobals "_law_saying" = some (some (.ref f21)))
    (l21 : K.lookup f21 = some ⟨oc21, od21, .func (PySem.W.fnOf "_law_saying" "_law_saying" (defArgs s_law_saying) (defBody s_law_saying) (defScope s_law_saying) .none kV21 dc21 pm21 an21 cd21 ct21), sl21⟩)
    (c21 : PySem.W.codeIn K cd21 "_law_saying" = true) (k21 : PySem.W.keepIn K (.ref f21) = true)
    (a22 : PySem.W.nsIn K mainGlobals "_law_size" = some (some (.ref f22)))
    (l22 : K.lookup f22 = some ⟨oc22, od22, .func (PySem.W.fnOf "_law_size" "_law_size" (defArgs s_law_size) (defBody s_law_size) (defScope s_law_size) .none kV22 dc22 pm22 an22 cd22 ct22), sl22⟩)
    (c22 : PySem.W.codeIn K cd22 "_law_size" = true) (k22 : PySem.W.keepIn K (.ref f22) = true)
    (a23 : PySem.W.nsIn K mainGlobals "_law_put" = some (some (.ref f23)))
    (l23 : K.lookup f23 = some ⟨oc23, od23, .func (PySem.W.fnOf "_law_put" "_law_put" (defArgs s_law_put) (defBody s_law_put) (defScope s_law_put) .none kV23 dc23 pm23 an23 cd23 ct23), sl23⟩)
    (c23 : PySem.W.codeIn K cd23 "_law_put" = true) (k23 : PySem.W.keepIn K (.ref f23) = true)
    (a24 : PySem.W.nsIn K mainGlobals "_law_far" = some (some (.ref f24)))
    (l24 : K.lookup f24 = some ⟨oc24, od24, .func (PySem.W.fnOf "_law_far" "_law_far" (defArgs s_law_far) (defBody s_law_far) (defScope s_law_far) .none kV24 dc24 pm24 an24 cd24 ct24), sl24⟩)
    (c24 : PySem.W.codeIn K cd24 "_law_far" = true) (k24 : PySem.W.keepIn K (.ref f24) = true)
    (a25 : PySem.W.nsIn K mainGlobals "_law_outcome" = some (some (.ref f25)))
    (l25 : K.lookup f25 = some ⟨oc25, od25, .func (PySem.W.fnOf "_law_outcome" "_law_outcome" (defArgs s_law_outcome) (defBody s_law_outcome) (defScope s_law_outcome) .none kV25 dc25 pm25 an25 cd25 ct25), sl25⟩)
    (c25 : PySem.W.codeIn K cd25 "_law_outcome" = true) (k25 : PySem.W.keepIn K (.ref f25) = true)
    (a26 : PySem.W.nsIn K mainGlobals "_law_other" = some (some (.ref f26)))
    (l26 : K.lookup f26 = some ⟨oc26, od26, .func (PySem.W.fnOf "_law_other" "_law_other" (defArgs s_law_other) (defBody s_law_other) (defScope s_law_other) .none kV26 dc26 pm26 an26 cd26 ct26), sl26⟩)
    (c26 : PySem.W.codeIn K cd26 "_law_other" = true) (k26 : PySem.W.keepIn K (.ref f26) = true)
    {ca27 cp27 : Addr} {cl27 : Value} {cd27b : Option Addr} {cs27 : Array (Option Value)} {us27 : Array Value} {er27 : DefRec}
    (a27 : PySem.W.nsIn K mainGlobals "_law_put_right" = some (some (.ref f27)))
    (l27 : K.lookup f27 = some ⟨oc27, od27, .func (PySem.W.fnOf "_law_put_right" "_law_put_right" (defArgs s_law_put_right) (defBody s_law_put_right) (defScope s_law_put_right) .none kV27 dc27 pm27 an27 (.ref ca27) ct27), sl27⟩)
    (c27 : PySem.W.codeIn K (.ref ca27) "_law_put_right" = true) (k27 : PySem.W.keepIn K (.ref f27) = true)
    (lv27 : K.lookup ca27 = some ⟨cl27, cd27b, .fields us27, cs27⟩) (ve27 : us27[11]? = some (.ref cp27)) (kn27 : K.lookup cp27 = none) (rc27 : (PyProof.Rows.recsOf qv).find? (fun e => e.name == ("_law_put_right" : Str)) = some er27)
    {ca28 cp28 : Addr} {cl28 : Value} {cd28b : Option Addr} {cs28 : Array (Option Value)} {us28 : Array Value} {er28 : DefRec}
    (a28 : PySem.W.nsIn K mainGlobals "_law_used_right" = some (some (.ref f28)))
    (l28 : K.lookup f28 = some ⟨oc28, od28, .func (PySem.W.fnOf "_law_used_right" "_law_used_right" (defArgs s_law_used_right) (defBody s_law_used_right) (defScope s_law_used_right) .none kV28 dc28 pm28 an28 (.ref ca28) ct28), sl28⟩)
    (c28 : PySem.W.codeIn K (.ref ca28) "_law_used_right" = true) (k28 : PySem.W.keepIn K (.ref f28) = true)
    (lv28 : K.lookup ca28 = some ⟨cl28, cd28b, .fields us28, cs28⟩) (ve28 : us28[11]? = some (.ref cp28)) (kn28 : K.lookup cp28 = none) (rc28 : (PyProof.Rows.recsOf qv).find? (fun e => e.name == ("_law_used_right" : Str)) = some er28)
    (a29 : PySem.W.nsIn K mainGlobals "law" = some (some (.ref f29)))
    (l29 : K.lookup f29 = some ⟨oc29, od29, .func (PySem.W.fnOf "law" "law" (defArgs s_law) (defBody s_law) (defScope s_law) .none kV29 dc29 pm29 an29 cd29 ct29), sl29⟩)
    (c29 : PySem.W.codeIn K cd29 "law" = true) (k29 : PySem.W.keepIn K (.ref f29) = true)
    (nq27_28 : cp27 ≠ cp28)
    (m_gcd : PySem.W.nsIn K mainGlobals "gcd" = some (some (.builtin "math.gcd")))
    (m_lcm : PySem.W.nsIn K mainGlobals "lcm" = some (some (.builtin "math.lcm")))
    {C_UnknownName : Addr} (m_UnknownName : PySem.W.nsIn K mainGlobals "UnknownName" = some (some (.ref C_UnknownName)))
    {nm_UnknownName qn_UnknownName : Str} {N_UnknownName : Addr} {bs_UnknownName bm_UnknownName : List Value} {sn_UnknownName : List Str} {sub_UnknownName : List Value} {ab_UnknownName : Bool} {col_UnknownName : Option Bool} {dd_UnknownName : Option Addr} {k0_UnknownName k1_UnknownName k2_UnknownName k3_UnknownName k5_UnknownName : Option Value}
    (l_UnknownName : K.lookup C_UnknownName = some (excClassObj nm_UnknownName qn_UnknownName C_UnknownName N_UnknownName bs_UnknownName bm_UnknownName true sn_UnknownName sub_UnknownName ab_UnknownName col_UnknownName dd_UnknownName k0_UnknownName k1_UnknownName k2_UnknownName k3_UnknownName k5_UnknownName "ValueError.__new__"))
    (h_UnknownName : PySem.HandSPX.refsVE bm_UnknownName = true)
    (sa_UnknownName : PySem.W.findIn K (.ref C_UnknownName) "__setattr__" = some (some (.builtin "object.__setattr__")))
    (xc_UnknownName : PySem.W.subIn K (.ref C_UnknownName) (.type "BaseException") = some true) (ty_UnknownName : PySem.W.typeIn K (.ref C_UnknownName) = some (.type "type")) (kp_UnknownName : PySem.W.keepIn K (.ref C_UnknownName) = true)
    (ga_UnknownName : PySem.W.findIn K (.ref C_UnknownName) "__getattribute__" = some (some (.builtin "BaseException.__getattribute__"))) (gg_UnknownName : PySem.W.findIn K (.ref C_UnknownName) "__getattr__" = some none) (hd_UnknownName : PySem.W.hasDictIn K C_UnknownName = true)
    {f_UnknownName_init : Addr} (i_UnknownName : PySem.W.findIn K (.ref C_UnknownName) "__init__" = some (some (.ref f_UnknownName_init))) (t_UnknownName : PySem.W.typeIn K (.ref f_UnknownName_init) = some (.type "function"))
    {od_UnknownName_init an_UnknownName_init : Option Addr} {sl_UnknownName_init : Array (Option Value)} {oc_UnknownName_init kV_UnknownName_init dc_UnknownName_init pm_UnknownName_init ct_UnknownName_init : Value}
    {ca_UnknownName_init cc_UnknownName_init : Addr} {cl_UnknownName_init cv_UnknownName_init : Value} {ce_UnknownName_init cf_UnknownName_init : Option Addr} {cs_UnknownName_init ct2_UnknownName_init : Array (Option Value)} {vs_UnknownName_init : Array Value} {fl_UnknownName_init : Str} {tf_UnknownName_init : Tok}
    (l_UnknownName_init : K.lookup f_UnknownName_init = some ⟨oc_UnknownName_init, od_UnknownName_init, .func (PySem.W.ksFn "__init__" "UnknownName.__init__" (defArgs s_UnknownName_init) (defBody s_UnknownName_init) (defScope s_UnknownName_init) .none kV_UnknownName_init dc_UnknownName_init pm_UnknownName_init an_UnknownName_init (.ref ca_UnknownName_init) ct_UnknownName_init cc_UnknownName_init), sl_UnknownName_init⟩)
    (c_UnknownName_init : PySem.W.codeIn K (.ref ca_UnknownName_init) "UnknownName.__init__" = true) (k_UnknownName_init : PySem.W.keepIn K (.ref f_UnknownName_init) = true)
    (lc_UnknownName_init : K.lookup cc_UnknownName_init = some ⟨cl_UnknownName_init, ce_UnknownName_init, .cell (some (.ref C_UnknownName)), cs_UnknownName_init⟩) (lv_UnknownName_init : K.lookup ca_UnknownName_init = some ⟨cv_UnknownName_init, cf_UnknownName_init, .fields vs_UnknownName_init, ct2_UnknownName_init⟩) (v2_UnknownName_init : vs_UnknownName_init[2]? = some (.str fl_UnknownName_init tf_UnknownName_init)) (fe_UnknownName_init : ((l.prog.main.file : Str) == fl_UnknownName_init) = true)
    (mr_UnknownName : PySem.W.mroIn K C_UnknownName (.ref C_UnknownName) = some true) (sv_UnknownName : PySem.W.subIn K (.ref C_UnknownName) (.type "ValueError") = some true) (sm_UnknownName : PySem.W.ks_superIn K C_UnknownName C_UnknownName "__init__" = some (some (.builtin "ValueError.__init__"))) (op_UnknownName : PySem.W.nsIn K cStatics "thirdparty.any" = some none) (tp_UnknownName : (l.prog.main.scope.names.lookup ("super" : Str)).isSome = false)
    (n_UnknownName_name : PySem.W.findIn K (.ref C_UnknownName) "name" = some none)
    {C_TooGreat : Addr} (m_TooGreat : PySem.W.nsIn K mainGlobals "TooGreat" = some (some (.ref C_TooGreat)))
    {nm_TooGreat qn_TooGreat : Str} {N_TooGreat : Addr} {bs_TooGreat bm_TooGreat : List Value} {sn_TooGreat : List Str} {sub_TooGreat : List Value} {ab_TooGreat : Bool} {col_TooGreat : Option Bool} {dd_TooGreat : Option Addr} {k0_TooGreat k1_TooGreat k2_TooGreat k3_TooGreat k5_TooGreat : Option Value}
    (l_TooGreat : K.lookup C_TooGreat = some (excClassObj nm_TooGreat qn_TooGreat C_TooGreat N_TooGreat bs_TooGreat bm_TooGreat true sn_TooGreat sub_TooGreat ab_TooGreat col_TooGreat dd_TooGreat k0_TooGreat k1_TooGreat k2_TooGreat k3_TooGreat k5_TooGreat "ValueError.__new__"))
    (h_TooGreat : PySem.HandSPX.refsVE bm_TooGreat = true)
    (sa_TooGreat : PySem.W.findIn K (.ref C_TooGreat) "__setattr__" = some (some (.builtin "object.__setattr__")))
    (xc_TooGreat : PySem.W.subIn K (.ref C_TooGreat) (.type "BaseException") = some true) (ty_TooGreat : PySem.W.typeIn K (.ref C_TooGreat) = some (.type "type")) (kp_TooGreat : PySem.W.keepIn K (.ref C_TooGreat) = true)
    (ga_TooGreat : PySem.W.findIn K (.ref C_TooGreat) "__getattribute__" = some (some (.builtin "BaseException.__getattribute__"))) (gg_TooGreat : PySem.W.findIn K (.ref C_TooGreat) "__getattr__" = some none) (hd_TooGreat : PySem.W.hasDictIn K C_TooGreat = true)
    {f_TooGreat_init : Addr} (i_TooGreat : PySem.W.findIn K (.ref C_TooGreat) "__init__" = some (some (.ref f_TooGreat_init))) (t_TooGreat : PySem.W.typeIn K (.ref f_TooGreat_init) = some (.type "function"))
    {od_TooGreat_init an_TooGreat_init : Option Addr} {sl_TooGreat_init : Array (Option Value)} {oc_TooGreat_init kV_TooGreat_init dc_TooGreat_init pm_TooGreat_init ct_TooGreat_init : Value}
    {ca_TooGreat_init cc_TooGreat_init : Addr} {cl_TooGreat_init cv_TooGreat_init : Value} {ce_TooGreat_init cf_TooGreat_init : Option Addr} {cs_TooGreat_init ct2_TooGreat_init : Array (Option Value)} {vs_TooGreat_init : Array Value} {fl_TooGreat_init : Str} {tf_TooGreat_init : Tok}
    (l_TooGreat_init : K.lookup f_TooGreat_init = some ⟨oc_TooGreat_init, od_TooGreat_init, .func (PySem.W.ksFn "__init__" "TooGreat.__init__" (defArgs s_TooGreat_init) (defBody s_TooGreat_init) (defScope s_TooGreat_init) .none kV_TooGreat_init dc_TooGreat_init pm_TooGreat_init an_TooGreat_init (.ref ca_TooGreat_init) ct_TooGreat_init cc_TooGreat_init), sl_TooGreat_init⟩)
    (c_TooGreat_init : PySem.W.codeIn K (.ref ca_TooGreat_init) "TooGreat.__init__" = true) (k_TooGreat_init : PySem.W.keepIn K (.ref f_TooGreat_init) = true)
    (lc_TooGreat_init : K.lookup cc_TooGreat_init = some ⟨cl_TooGreat_init, ce_TooGreat_init, .cell (some (.ref C_TooGreat)), cs_TooGreat_init⟩) (lv_TooGreat_init : K.lookup ca_TooGreat_init = some ⟨cv_TooGreat_init, cf_TooGreat_init, .fields vs_TooGreat_init, ct2_TooGreat_init⟩) (v2_TooGreat_init : vs_TooGreat_init[2]? = some (.str fl_TooGreat_init tf_TooGreat_init)) (fe_TooGreat_init : ((l.prog.main.file : Str) == fl_TooGreat_init) = true)
    (mr_TooGreat : PySem.W.mroIn K C_TooGreat (.ref C_TooGreat) = some true) (sv_TooGreat : PySem.W.subIn K (.ref C_TooGreat) (.type "ValueError") = some true) (sm_TooGreat : PySem.W.ks_superIn K C_TooGreat C_TooGreat "__init__" = some (some (.builtin "ValueError.__init__"))) (op_TooGreat : PySem.W.nsIn K cStatics "thirdparty.any" = some none) (tp_TooGreat : (l.prog.main.scope.names.lookup ("super" : Str)).isSome = false)
    (n_TooGreat_what : PySem.W.findIn K (.ref C_TooGreat) "what" = some none)
    {C_OutOfRange : Addr} (m_OutOfRange : PySem.W.nsIn K mainGlobals "OutOfRange" = some (some (.ref C_OutOfRange)))
    {nm_OutOfRange qn_OutOfRange : Str} {N_OutOfRange : Addr} {bs_OutOfRange bm_OutOfRange : List Value} {sn_OutOfRange : List Str} {sub_OutOfRange : List Value} {ab_OutOfRange : Bool} {col_OutOfRange : Option Bool} {dd_OutOfRange : Option Addr} {k0_OutOfRange k1_OutOfRange k2_OutOfRange k3_OutOfRange k5_OutOfRange : Option Value}
    (l_OutOfRange : K.lookup C_OutOfRange = some (excClassObj nm_OutOfRange qn_OutOfRange C_OutOfRange N_OutOfRange bs_OutOfRange bm_OutOfRange true sn_OutOfRange sub_OutOfRange ab_OutOfRange col_OutOfRange dd_OutOfRange k0_OutOfRange k1_OutOfRange k2_OutOfRange k3_OutOfRange k5_OutOfRange "ValueError.__new__"))
    (h_OutOfRange : PySem.HandSPX.refsVE bm_OutOfRange = true)
    (sa_OutOfRange : PySem.W.findIn K (.ref C_OutOfRange) "__setattr__" = some (some (.builtin "object.__setattr__")))
    (xc_OutOfRange : PySem.W.subIn K (.ref C_OutOfRange) (.type "BaseException") = some true) (ty_OutOfRange : PySem.W.typeIn K (.ref C_OutOfRange) = some (.type "type")) (kp_OutOfRange : PySem.W.keepIn K (.ref C_OutOfRange) = true)
    (ga_OutOfRange : PySem.W.findIn K (.ref C_OutOfRange) "__getattribute__" = some (some (.builtin "BaseException.__getattribute__"))) (gg_OutOfRange : PySem.W.findIn K (.ref C_OutOfRange) "__getattr__" = some none) (hd_OutOfRange : PySem.W.hasDictIn K C_OutOfRange = true)
    {f_OutOfRange_init : Addr} (i_OutOfRange : PySem.W.findIn K (.ref C_OutOfRange) "__init__" = some (some (.ref f_OutOfRange_init))) (t_OutOfRange : PySem.W.typeIn K (.ref f_OutOfRange_init) = some (.type "function"))
    {od_OutOfRange_init an_OutOfRange_init : Option Addr} {sl_OutOfRange_init : Array (Option Value)} {oc_OutOfRange_init kV_OutOfRange_init dc_OutOfRange_init pm_OutOfRange_init ct_OutOfRange_init : Value}
    {ca_OutOfRange_init cc_OutOfRange_init : Addr} {cl_OutOfRange_init cv_OutOfRange_init : Value} {ce_OutOfRange_init cf_OutOfRange_init : Option Addr} {cs_OutOfRange_init ct2_OutOfRange_init : Array (Option Value)} {vs_OutOfRange_init : Array Value} {fl_OutOfRange_init : Str} {tf_OutOfRange_init : Tok}
    (l_OutOfRange_init : K.lookup f_OutOfRange_init = some ⟨oc_OutOfRange_init, od_OutOfRange_init, .func (PySem.W.ksFn "__init__" "OutOfRange.__init__" (defArgs s_OutOfRange_init) (defBody s_OutOfRange_init) (defScope s_OutOfRange_init) .none kV_OutOfRange_init dc_OutOfRange_init pm_OutOfRange_init an_OutOfRange_init (.ref ca_OutOfRange_init) ct_OutOfRange_init cc_OutOfRange_init), sl_OutOfRange_init⟩)
    (c_OutOfRange_init : PySem.W.codeIn K (.ref ca_OutOfRange_init) "OutOfRange.__init__" = true) (k_OutOfRange_init : PySem.W.keepIn K (.ref f_OutOfRange_init) = true)
    (lc_OutOfRange_init : K.lookup cc_OutOfRange_init = some ⟨cl_OutOfRange_init, ce_OutOfRange_init, .cell (some (.ref C_OutOfRange)), cs_OutOfRange_init⟩) (lv_OutOfRange_init : K.lookup ca_OutOfRange_init = some ⟨cv_OutOfRange_init, cf_OutOfRange_init, .fields vs_OutOfRange_init, ct2_OutOfRange_init⟩) (v2_OutOfRange_init : vs_OutOfRange_init[2]? = some (.str fl_OutOfRange_init tf_OutOfRange_init)) (fe_OutOfRange_init : ((l.prog.main.file : Str) == fl_OutOfRange_init) = true)
    (mr_OutOfRange : PySem.W.mroIn K C_OutOfRange (.ref C_OutOfRange) = some true) (sv_OutOfRange : PySem.W.subIn K (.ref C_OutOfRange) (.type "ValueError") = some true) (sm_OutOfRange : PySem.W.ks_superIn K C_OutOfRange C_OutOfRange "__init__" = some (some (.builtin "ValueError.__init__"))) (op_OutOfRange : PySem.W.nsIn K cStatics "thirdparty.any" = some none) (tp_OutOfRange : (l.prog.main.scope.names.lookup ("super" : Str)).isSome = false)
    (n_OutOfRange_value : PySem.W.findIn K (.ref C_OutOfRange) "value" = some none)
    (e_UnknownName_TooGreat : PySem.W.subIn K (.ref C_UnknownName) (.ref C_TooGreat) = some false)
    (e_TooGreat_TooGreat : PySem.W.subIn K (.ref C_TooGreat) (.ref C_TooGreat) = some true)
    (e_OutOfRange_TooGreat : PySem.W.subIn K (.ref C_OutOfRange) (.ref C_TooGreat) = some false)
    (z_super : PySem.W.nsIn K mainGlobals "super" = some none)
    (z_len : PySem.W.nsIn K mainGlobals "len" = some none)
    (z_max : PySem.W.nsIn K mainGlobals "max" = some none)
    (z_tuple : PySem.W.nsIn K mainGlobals "tuple" = some none)
    (z_list : PySem.W.nsIn K mainGlobals "list" = some none)
    (z_range : PySem.W.nsIn K mainGlobals "range" = some none)
    (z_min : PySem.W.nsIn K mainGlobals "min" = some none)
    (z_abs : PySem.W.nsIn K mainGlobals "abs" = some none)
    (z_zip : PySem.W.nsIn K mainGlobals "zip" = some none)
    (z_int : PySem.W.nsIn K mainGlobals "int" = some none)
    (z_repr : PySem.W.nsIn K mainGlobals "repr" = some none)
    {u_MOST_WORDS : Value} (n_MOST_WORDS : PySem.W.nsIn K mainGlobals "MOST_WORDS" = some (some u_MOST_WORDS)) (r_MOST_WORDS : RelV (.int 1000) u_MOST_WORDS)
    {u_MOST_DEPTH : Value} (n_MOST_DEPTH : PySem.W.nsIn K mainGlobals "MOST_DEPTH" = some (some u_MOST_DEPTH)) (r_MOST_DEPTH : RelV (.int 60) u_MOST_DEPTH) :
    ∃ (fd : FuncData) (cs : List (Addr × Addr)) (sp : Sp), (∀ (s : Shared) (v : Value), BindsTo s fd ⟨[v], []⟩ [("script", v)]) ∧ (∀ p ∈ cs, K.lookup p.2 = none ∧ ∃ (y : Str) (e : DefRec), (PyProof.Rows.recsOf qv).find? (fun e => e.name == y) = some e ∧ PySem.W.tabIn K y = some p) ∧
      (∀ (H : Hp) (a : Addr) (ns : List Int), ns.length ≤ 63 → (∀ z ∈ ns, Builtin.Int.intBits z ≤ 1048576) → (∀ p ∈ cs, H p.2 = some (.tbl #[])) → SqL K H a (ns.map V.int) → sp [.ref a] H (fun v _ => v = .bl true) fun _ _ _ => False) ∧
      ∀ base : Heap, K.In base → base.Ns mainGlobals mg → (∀ p ∈ cs, LamX.TabB base mg p.1 p.2) → FnG l.prog w K mg base CX0 122 fa fd ["script"] sp := by
  have e := hfa.symm.trans (PySem.W.mg_of X G a29)
  cases e
  have F1 := fun_mk (st := s_parts_of) l1 c1 k1
  have F2 := fun_mk (st := s_all_words) l2 c2 k2
  have F3 := fun_mk (st := s_words_in) l3 c3 k3
  have F4 := fun_mk (st := s_depth_of) l4 c4 k4
  have F5 := fun_mk (st := s_unknowns_of) l5 c5 k5
  have F6 := fun_mk (st := s_occurrences) l6 c6 k6
  have F7 := fun_mk (st := s_put_for) l7 c7 k7
  have F8 := fun_mk (st := s_changed) l8 c8 k8
  have F9 := fun_mk (st := s_used_times) l9 c9 k9
  have F10 := fun_mk (st := s_lowest_terms) l10 c10 k10
  have F11 := fun_mk (st := s_fraction) l11 c11 k11
  have F12 := fun_mk (st := s_denominator_of) l12 c12 k12
  have F13 := fun_mk (st := s_number_given) l13 c13 k13
  have F14 := fun_mk (st := s_number_of) l14 c14 k14
  have F15 := fun_mk (st := s_numbers_for) l15 c15 k15
  have F16 := fun_mk (st := s_check_names) l16 c16 k16
  have F17 := fun_mk (st := s_value_at) l17 c17 k17
  have F18 := fun_mk (st := s_law_begun) l18 c18 k18
  have F19 := fun_mk (st := s_law_draw) l19 c19 k19
  have F20 := fun_mk (st := s_law_of) l20 c20 k20
  have F21 := fun_mk (st := s_law_saying) l21 c21 k21
  have F22 := fun_mk (st := s_law_size) l22 c22 k22
  have F23 := fun_mk (st := s_law_put) l23 c23 k23
  have F24 := fun_mk (st := s_law_far) l24 c24 k24
  have F25 := fun_mk (st := s_law_outcome) l25 c25 k25
  have F26 := fun_mk (st := s_law_other) l26 c26 k26
  have F27 : FunL K "_law_put_right" "_law_put_right" s_law_put_right f27 _ ca27 := ⟨⟨_, _, _, _, _, _, _, _, rfl, l27, c27⟩, k27⟩
  have b27 : Binds K _ ["m"] [] := Binds.all (fd := PySem.W.fnOf "_law_put_right" "_law_put_right" (defArgs s_law_put_right) (defBody s_law_put_right) (defScope s_law_put_right) .none kV27 dc27 pm27 an27 (.ref ca27) ct27) fun us hl => match us, hl with | [_], _ => rfl
  have F28 : FunL K "_law_used_right" "_law_used_right" s_law_used_right f28 _ ca28 := ⟨⟨_, _, _, _, _, _, _, _, rfl, l28, c28⟩, k28⟩
  have b28 : Binds K _ ["m"] [] := Binds.all (fd := PySem.W.fnOf "_law_used_right" "_law_used_right" (defArgs s_law_used_right) (defBody s_law_used_right) (defScope s_law_used_right) .none kV28 dc28 pm28 an28 (.ref ca28) ct28) fun us hl => match us, hl with | [_], _ => rfl
  have F29 := fun_mk (st := s_law) l29 c29 k29
  have b1 := F1.binds (ps := ["word"]) fun _ _ _ _ _ _ us hl => match us, hl with | [_], _ => rfl
  have b2 := F2.binds (ps := ["saying"]) fun _ _ _ _ _ _ us hl => match us, hl with | [_], _ => rfl
  have b3 := F3.binds (ps := ["saying"]) fun _ _ _ _ _ _ us hl => match us, hl with | [_], _ => rfl
  have b4 := F4.binds (ps := ["saying"]) fun _ _ _ _ _ _ us hl => match us, hl with | [_], _ => rfl
  have b5 := F5.binds (ps := ["sayings"]) fun _ _ _ _ _ _ us hl => match us, hl with | [_], _ => rfl
  have b6 := F6.binds (ps := ["saying", "name"]) fun _ _ _ _ _ _ us hl => match us, hl with | [_, _], _ => rfl
  have b7 := F7.binds (ps := ["saying", "name", "other"]) fun _ _ _ _ _ _ us hl => match us, hl with | [_, _, _], _ => rfl
  have b8 := F8.binds (ps := ["saying", "name", "other"]) fun _ _ _ _ _ _ us hl => match us, hl with | [_, _, _], _ => rfl
  have b9 := F9.binds (ps := ["saying", "count"]) fun _ _ _ _ _ _ us hl => match us, hl with | [_, _], _ => rfl
  have b10 := F10.binds (ps := ["above", "below"]) fun _ _ _ _ _ _ us hl => match us, hl with | [_, _], _ => rfl
  have b11 := F11.binds (ps := ["above", "below"]) fun _ _ _ _ _ _ us hl => match us, hl with | [_, _], _ => rfl
  have b12 := F12.binds (ps := ["point"]) fun _ _ _ _ _ _ us hl => match us, hl with | [_], _ => rfl
  have b13 := F13.binds (ps := ["mark", "first", "second", "whole"]) fun _ _ _ _ _ _ us hl => match us, hl with | [_, _, _, _], _ => rfl
  have b14 := F14.binds (ps := ["saying", "numbers", "whole"]) fun _ _ _ _ _ _ us hl => match us, hl with | [_, _, _], _ => rfl
  have b15 := F15.binds (ps := ["names", "point"]) fun _ _ _ _ _ _ us hl => match us, hl with | [_, _], _ => rfl
  have b16 := F16.binds (ps := ["needed", "names"]) fun _ _ _ _ _ _ us hl => match us, hl with | [_, _], _ => rfl
  have b17 := F17.binds (ps := ["saying", "names", "point"]) fun _ _ _ _ _ _ us hl => match us, hl with | [_, _, _], _ => rfl
  have b18 := F18.binds (ps := ["script", "k"]) fun _ _ _ _ _ _ us hl => match us, hl with | [_, _], _ => rfl
  have b19 := F19.binds (ps := ["m", "below"]) fun _ _ _ _ _ _ us hl => match us, hl with | [_, _], _ => rfl
  have b20 := F20.binds (ps := ["m", "some"]) fun _ _ _ _ _ _ us hl => match us, hl with | [_, _], _ => rfl
  have b21 := F21.binds (ps := ["m", "names", "size"]) fun _ _ _ _ _ _ us hl => match us, hl with | [_, _, _], _ => rfl
  have b22 := F22.binds (ps := ["saying", "name", "words", "depth"]) fun _ _ _ _ _ _ us hl => match us, hl with | [_, _, _, _], _ => rfl
  have b23 := F23.binds (ps := ["saying", "name", "other"]) fun _ _ _ _ _ _ us hl => match us, hl with | [_, _, _], _ => rfl
  have b24 := F24.binds (ps := ["many", "deep"]) fun _ _ _ _ _ _ us hl => match us, hl with | [_, _], _ => rfl
  have b25 := F25.binds (ps := ["call"]) fun _ _ _ _ _ _ us hl => match us, hl with | [_], _ => rfl
  have b26 := F26.binds (ps := ["m"]) fun _ _ _ _ _ _ us hl => match us, hl with | [_], _ => rfl
  have F_UnknownName_init : SupFun l.prog K C_UnknownName "UnknownName.__init__" s_UnknownName_init f_UnknownName_init _ := ⟨⟨_, _, _, _, _, _, _, _, _, _, rfl, l_UnknownName_init, c_UnknownName_init, ⟨_, _, _, lc_UnknownName_init⟩, ⟨_, _, _, _, _, _, lv_UnknownName_init, v2_UnknownName_init, fe_UnknownName_init⟩⟩, k_UnknownName_init⟩
  have b_UnknownName_init : Binds K _ ["self", "name"] [] := Binds.all (fd := PySem.W.ksFn "__init__" "UnknownName.__init__" (defArgs s_UnknownName_init) (defBody s_UnknownName_init) (defScope s_UnknownName_init) .none kV_UnknownName_init dc_UnknownName_init pm_UnknownName_init an_UnknownName_init (.ref ca_UnknownName_init) ct_UnknownName_init cc_UnknownName_init) fun us hl => match us, hl with | [_, _], _ => rfl
  have S_UnknownName : SupC l.prog K C_UnknownName := ⟨Option.isSome_iff_exists.mp (clsIn_exc l_UnknownName), mr_UnknownName, sv_UnknownName, sm_UnknownName, op_UnknownName, tp_UnknownName⟩
  have F_TooGreat_init : SupFun l.prog K C_TooGreat "TooGreat.__init__" s_TooGreat_init f_TooGreat_init _ := ⟨⟨_, _, _, _, _, _, _, _, _, _, rfl, l_TooGreat_init, c_TooGreat_init, ⟨_, _, _, lc_TooGreat_init⟩, ⟨_, _, _, _, _, _, lv_TooGreat_init, v2_TooGreat_init, fe_TooGreat_init⟩⟩, k_TooGreat_init⟩
  have b_TooGreat_init : Binds K _ ["self", "what"] [] := Binds.all (fd := PySem.W.ksFn "__init__" "TooGreat.__init__" (defArgs s_TooGreat_init) (defBody s_TooGreat_init) (defScope s_TooGreat_init) .none kV_TooGreat_init dc_TooGreat_init pm_TooGreat_init an_TooGreat_init (.ref ca_TooGreat_init) ct_TooGreat_init cc_TooGreat_init) fun us hl => match us, hl with | [_, _], _ => rfl
  have S_TooGreat : SupC l.prog K C_TooGreat := ⟨Option.isSome_iff_exists.mp (clsIn_exc l_TooGreat), mr_TooGreat, sv_TooGreat, sm_TooGreat, op_TooGreat, tp_TooGreat⟩
  have F_OutOfRange_init : SupFun l.prog K C_OutOfRange "OutOfRange.__init__" s_OutOfRange_init f_OutOfRange_init _ := ⟨⟨_, _, _, _, _, _, _, _, _, _, rfl, l_OutOfRange_init, c_OutOfRange_init, ⟨_, _, _, lc_OutOfRange_init⟩, ⟨_, _, _, _, _, _, lv_OutOfRange_init, v2_OutOfRange_init, fe_OutOfRange_init⟩⟩, k_OutOfRange_init⟩
  have b_OutOfRange_init : Binds K _ ["self", "value"] [] := Binds.all (fd := PySem.W.ksFn "__init__" "OutOfRange.__init__" (defArgs s_OutOfRange_init) (defBody s_OutOfRange_init) (defScope s_OutOfRange_init) .none kV_OutOfRange_init dc_OutOfRange_init pm_OutOfRange_init an_OutOfRange_init (.ref ca_OutOfRange_init) ct_OutOfRange_init cc_OutOfRange_init) fun us hl => match us, hl with | [_, _], _ => rfl
  have S_OutOfRange : SupC l.prog K C_OutOfRange := ⟨Option.isSome_iff_exists.mp (clsIn_exc l_OutOfRange), mr_OutOfRange, sv_OutOfRange, sm_OutOfRange, op_OutOfRange, tp_OutOfRange⟩
  let T : Txt l.prog K mg := {
    f_parts_of := f1,
    d_parts_of := _,
    F_parts_of := F1,
    b_parts_of := b1,
    g_parts_of := PySem.W.mg_of X G a1,
    f_all_words := f2,
    d_all_words := _,
    F_all_words := F2,
    b_all_words := b2,
    g_all_words := PySem.W.mg_of X G a2,
    f_words_in := f3,
    d_words_in := _,
    F_words_in := F3,
    b_words_in := b3,
    g_words_in := PySem.W.mg_of X G a3,
    f_depth_of := f4,
    d_depth_of := _,
    F_depth_of := F4,
    b_depth_of := b4,
    g_depth_of := PySem.W.mg_of X G a4,
    f_unknowns_of := f5,
    d_unknowns_of := _,
    F_unknowns_of := F5,
    b_unknowns_of := b5,
    g_unknowns_of := PySem.W.mg_of X G a5,
    f_occurrences := f6,
    d_occurrences := _,
    F_occurrences := F6,
    b_occurrences := b6,
    g_occurrences := PySem.W.mg_of X G a6,
    f_put_for := f7,
    d_put_for := _,
    F_put_for := F7,
    b_put_for := b7,
    g_put_for := PySem.W.mg_of X G a7,
    f_changed := f8,
    d_changed := _,
    F_changed := F8,
    b_changed := b8,
    g_changed := PySem.W.mg_of X G a8,
    f_used_times := f9,
    d_used_times := _,
    F_used_times := F9,
    b_used_times := b9,
    g_used_times := PySem.W.mg_of X G a9,
    f_lowest_terms := f10,
    d_lowest_terms := _,
    F_lowest_terms := F10,
    b_lowest_terms := b10,
    g_lowest_terms := PySem.W.mg_of X G a10,
    f_fraction := f11,
    d_fraction := _,
    F_fraction := F11,
    b_fraction := b11,
    g_fraction := PySem.W.mg_of X G a11,
    f_denominator_of := f12,
    d_denominator_of := _,
    F_denominator_of := F12,
    b_denominator_of := b12,
    g_denominator_of := PySem.W.mg_of X G a12,
    f_number_given := f13,
    d_number_given := _,
    F_number_given := F13,
    b_number_given := b13,
    g_number_given := PySem.W.mg_of X G a13,
    f_number_of := f14,
    d_number_of := _,
    F_number_of := F14,
    b_number_of := b14,
    g_number_of := PySem.W.mg_of X G a14,
    f_numbers_for := f15,
    d_numbers_for := _,
    F_numbers_for := F15,
    b_numbers_for := b15,
    g_numbers_for := PySem.W.mg_of X G a15,
    f_check_names := f16,
    d_check_names := _,
    F_check_names := F16,
    b_check_names := b16,
    g_check_names := PySem.W.mg_of X G a16,
    f_value_at := f17,
    d_value_at := _,
    F_value_at := F17,
    b_value_at := b17,
    g_value_at := PySem.W.mg_of X G a17,
    f_law_begun := f18,
    d_law_begun := _,
    F_law_begun := F18,
    b_law_begun := b18,
    g_law_begun := PySem.W.mg_of X G a18,
    f_law_draw := f19,
    d_law_draw := _,
    F_law_draw := F19,
    b_law_draw := b19,
    g_law_draw := PySem.W.mg_of X G a19,
    f_law_of := f20,
    d_law_of := _,
    F_law_of := F20,
    b_law_of := b20,
    g_law_of := PySem.W.mg_of X G a20,
    f_law_saying := f21,
    d_law_saying := _,
    F_law_saying := F21,
    b_law_saying := b21,
    g_law_saying := PySem.W.mg_of X G a21,
    f_law_size := f22,
    d_law_size := _,
    F_law_size := F22,
    b_law_size := b22,
    g_law_size := PySem.W.mg_of X G a22,
    f_law_put := f23,
    d_law_put := _,
    F_law_put := F23,
    b_law_put := b23,
    g_law_put := PySem.W.mg_of X G a23,
    f_law_far := f24,
    d_law_far := _,
    F_law_far := F24,
    b_law_far := b24,
    g_law_far := PySem.W.mg_of X G a24,
    f_law_outcome := f25,
    d_law_outcome := _,
    F_law_outcome := F25,
    b_law_outcome := b25,
    g_law_outcome := PySem.W.mg_of X G a25,
    f_law_other := f26,
    d_law_other := _,
    F_law_other := F26,
    b_law_other := b26,
    g_law_other := PySem.W.mg_of X G a26,
    c_law_put_right := ca27,
    P_law_put_right := cp27,
    q_law_put_right_law_used_right := nq27_28,
    f_law_put_right := f27,
    d_law_put_right := _,
    F_law_put_right := F27,
    b_law_put_right := b27,
    g_law_put_right := PySem.W.mg_of X G a27,
    c_law_used_right := ca28,
    P_law_used_right := cp28,
    f_law_used_right := f28,
    d_law_used_right := _,
    F_law_used_right := F28,
    b_law_used_right := b28,
    g_law_used_right := PySem.W.mg_of X G a28,
    m_gcd := PySem.W.mg_of X G m_gcd,
    m_lcm := PySem.W.mg_of X G m_lcm,
    S_UnknownName := S_UnknownName,
    C_UnknownName := C_UnknownName,
    m_UnknownName := PySem.W.mg_of X G m_UnknownName,
    o_UnknownName := ⟨⟨_, _, _, _, _, _, _, _, _, _, _, _, _, _, _, l_UnknownName, h_UnknownName⟩, sa_UnknownName, xc_UnknownName, ty_UnknownName, kp_UnknownName⟩,
    x_UnknownName := ⟨ga_UnknownName, gg_UnknownName, xc_UnknownName, hd_UnknownName⟩,
    f_UnknownName_init := f_UnknownName_init,
    d_UnknownName_init := _,
    F_UnknownName_init := F_UnknownName_init,
    b_UnknownName_init := b_UnknownName_init,
    i_UnknownName := i_UnknownName,
    t_UnknownName := t_UnknownName,
    n_UnknownName_name := n_UnknownName_name,
    S_TooGreat := S_TooGreat,
    C_TooGreat := C_TooGreat,
    m_TooGreat := PySem.W.mg_of X G m_TooGreat,
    o_TooGreat := ⟨⟨_, _, _, _, _, _, _, _, _, _, _, _, _, _, _, l_TooGreat, h_TooGreat⟩, sa_TooGreat, xc_TooGreat, ty_TooGreat, kp_TooGreat⟩,
    x_TooGreat := ⟨ga_TooGreat, gg_TooGreat, xc_TooGreat, hd_TooGreat⟩,
    f_TooGreat_init := f_TooGreat_init,
    d_TooGreat_init := _,
    F_TooGreat_init := F_TooGreat_init,
    b_TooGreat_init := b_TooGreat_init,
    i_TooGreat := i_TooGreat,
    t_TooGreat := t_TooGreat,
    n_TooGreat_what := n_TooGreat_what,
    S_OutOfRange := S_OutOfRange,
    C_OutOfRange := C_OutOfRange,
    m_OutOfRange := PySem.W.mg_of X G m_OutOfRange,
    o_OutOfRange := ⟨⟨_, _, _, _, _, _, _, _, _, _, _, _, _, _, _, l_OutOfRange, h_OutOfRange⟩, sa_OutOfRange, xc_OutOfRange, ty_OutOfRange, kp_OutOfRange⟩,
    x_OutOfRange := ⟨ga_OutOfRange, gg_OutOfRange, xc_OutOfRange, hd_OutOfRange⟩,
    f_OutOfRange_init := f_OutOfRange_init,
    d_OutOfRange_init := _,
    F_OutOfRange_init := F_OutOfRange_init,
    b_OutOfRange_init := b_OutOfRange_init,
    i_OutOfRange := i_OutOfRange,
    t_OutOfRange := t_OutOfRange,
    n_OutOfRange_value := n_OutOfRange_value,
    e_UnknownName_TooGreat := exm_of (clsIn_exc l_TooGreat) ty_TooGreat xc_TooGreat e_UnknownName_TooGreat,
    e_TooGreat_TooGreat := exm_of (clsIn_exc l_TooGreat) ty_TooGreat xc_TooGreat e_TooGreat_TooGreat,
    e_OutOfRange_TooGreat := exm_of (clsIn_exc l_TooGreat) ty_TooGreat xc_TooGreat e_OutOfRange_TooGreat,
    z_super := PySem.W.mg_none_of X G z_super,
    z_len := PySem.W.mg_none_of X G z_len,
    z_max := PySem.W.mg_none_of X G z_max,
    z_tuple := PySem.W.mg_none_of X G z_tuple,
    z_list := PySem.W.mg_none_of X G z_list,
    z_range := PySem.W.mg_none_of X G z_range,
    z_min := PySem.W.mg_none_of X G z_min,
    z_abs := PySem.W.mg_none_of X G z_abs,
    z_zip := PySem.W.mg_none_of X G z_zip,
    z_int := PySem.W.mg_none_of X G z_int,
    z_repr := PySem.W.mg_none_of X G z_repr,
    u_MOST_WORDS := u_MOST_WORDS,
    c_MOST_WORDS := PySem.W.mg_of X G n_MOST_WORDS,
    r_MOST_WORDS := r_MOST_WORDS,
    u_MOST_DEPTH := u_MOST_DEPTH,
    c_MOST_DEPTH := PySem.W.mg_of X G n_MOST_DEPTH,
    r_MOST_DEPTH := r_MOST_DEPTH }
  refine ⟨_, [(ca27, cp27), (ca28, cp28)], spLaw K (tabsT T), fun s v => .of_eq rfl, ?_, ?_, fun base _ _ tb => ok_law T (tb _ (List.mem_cons_self ..)) (tb _ (List.mem_cons_of_mem _ (List.mem_cons_self ..))) F29⟩
  · intro p hp
    rcases List.mem_cons.mp hp with rfl | hp
    · exact ⟨kn27, "_law_put_right", er27, rc27, tab_in a27 l27 rfl lv27 ve27⟩
    rcases List.mem_cons.mp hp with rfl | hp
    · exact ⟨kn28, "_law_used_right", er28, rc28, tab_in a28 l28 rfl lv28 ve28⟩
    cases hp
  · intro H a ns h1 h2 ht hS
    refine ⟨a, ns, rfl, hS, h1, h2, ?_, fun _ => rfl⟩
    intro p hp
    rcases List.mem_cons.mp hp with rfl | hp
    · exact LamX.TabS.nil (ht (ca27, cp27) (List.mem_cons_self ..))
    rcases List.mem_cons.mp hp with rfl | hp
    · exact LamX.TabS.nil (ht (ca28, cp28) (List.mem_cons_of_mem _ (List.mem_cons_self ..)))
    cases hp
end Lw
open PySem PySem.W PyProof.Rows in
set_option maxRecDepth 100000 in
set_option maxHeartbeats 0 in
theorem PySem.Challenge.cw_halftruths_k02_put_and_used_holds : PySem.Challenge.rw_halftruths_k02_put_and_used.Holds := by
  w_on; o_law; k_head; (case hw => w_witness2)
  k_fill
  refine Gd.walkGT (l := PySem.Challenge.rw_halftruths_k02_put_and_used) (n := 63) (k := 122) (x := "script") rfl (by decide) rfl ⟨rfl, by decide, by decide⟩ (fun w h Y => by first | exact PySem.W.km_in_of Y | exact PySem.W.kIn_of Y) ?F
  case F =>
    intro w mg fa h KX G hmg
    refine' Lw.all_mk KX G hmg ?a1 ?l1 ?c1 ?k1 ?a2 ?l2 ?c2 ?k2 ?a3 ?l3 ?c3 ?k3 ?a4 ?l4 ?c4 ?k4 ?a5 ?l5 ?c5 ?k5 ?a6 ?l6 ?c6 ?k6 ?a7 ?l7 ?c7 ?k7 ?a8 ?l8 ?c8 ?k8 ?a9 ?l9 ?c9 ?k9 ?a10 ?l10 ?c10 ?k10 ?a11 ?l11 ?c11 ?k11 ?a12 ?l12 ?c12 ?k12 ?a13 ?l13 ?c13 ?k13 ?a14 ?l14 ?c14 ?k14 ?a15 ?l15 ?c15 ?k15 ?a16 ?l16 ?c16 ?k16 ?a17 ?l17 ?c17 ?k17 ?a18 ?l18 ?c18 ?k18 ?a19 ?l19 ?c19 ?k19 ?a20 ?l20 ?c20 ?k20 ?a21 ?l21 ?c21 ?k21 ?a22 ?l22 ?c22 ?k22 ?a23 ?l23 ?c23 ?k23 ?a24 ?l24 ?c24 ?k24 ?a25 ?l25 ?c25 ?k25 ?a26 ?l26 ?c26 ?k26 ?a27 ?l27 ?c27 ?k27 ?lv27 ?ve27 ?kn27 ?rc27 ?a28 ?l28 ?c28 ?k28 ?lv28 ?ve28 ?kn28 ?rc28 ?a29 ?l29 ?c29 ?k29 ?nq27_28 ?m_gcd ?m_lcm ?m_UnknownName ?l_UnknownName ?h_UnknownName ?sa_UnknownName ?xc_UnknownName ?ty_UnknownName ?kp_UnknownName ?ga_UnknownName ?gg_UnknownName ?hd_UnknownName ?i_UnknownName ?t_UnknownName ?l_UnknownName_init ?c_UnknownName_init ?k_UnknownName_init ?lc_UnknownName_init ?lv_UnknownName_init ?v2_UnknownName_init ?fe_UnknownName_init ?mr_UnknownName ?sv_UnknownName ?sm_UnknownName ?op_UnknownName ?tp_UnknownName ?n_UnknownName_name ?m_TooGreat ?l_TooGreat ?h_TooGreat ?sa_TooGreat ?xc_TooGreat ?ty_TooGreat ?kp_TooGreat ?ga_TooGreat ?gg_TooGreat ?hd_TooGreat ?i_TooGreat ?t_TooGreat ?l_TooGreat_init ?c_TooGreat_init ?k_TooGreat_init ?lc_TooGreat_init ?lv_TooGreat_init ?v2_TooGreat_init ?fe_TooGreat_init ?mr_TooGreat ?sv_TooGreat ?sm_TooGreat ?op_TooGreat ?tp_TooGreat ?n_TooGreat_what ?m_OutOfRange ?l_OutOfRange ?h_OutOfRange ?sa_OutOfRange ?xc_OutOfRange ?ty_OutOfRange ?kp_OutOfRange ?ga_OutOfRange ?gg_OutOfRange ?hd_OutOfRange ?i_OutOfRange ?t_OutOfRange ?l_OutOfRange_init ?c_OutOfRange_init ?k_OutOfRange_init ?lc_OutOfRange_init ?lv_OutOfRange_init ?v2_OutOfRange_init ?fe_OutOfRange_init ?mr_OutOfRange ?sv_OutOfRange ?sm_OutOfRange ?op_OutOfRange ?tp_OutOfRange ?n_OutOfRange_value ?e_UnknownName_TooGreat ?e_TooGreat_TooGreat ?e_OutOfRange_TooGreat ?z_super ?z_len ?z_max ?z_tuple ?z_list ?z_range ?z_min ?z_abs ?z_zip ?z_int ?z_repr ?n_MOST_WORDS ?r_MOST_WORDS ?n_MOST_DEPTH ?r_MOST_DEPTH
    (case a1 => k_is)
    (case l1 => k_is)
    (case c1 => k_is)
    (case k1 => k_is)
    (case a2 => k_is)
    (case l2 => k_is)
    (case c2 => k_is)
    (case k2 => k_is)
    (case a3 => k_is)
    (case l3 => k_is)
    (case c3 => k_is)
    (case k3 => k_is)
    (case a4 => k_is)
    (case l4 => k_is)
    (case c4 => k_is)
    (case k4 => k_is)
    (case a5 => k_is)
    (case l5 => k_is)
    (case c5 => k_is)
    (case k5 => k_is)
    (case a6 => k_is)
    (case l6 => k_is)
    (case c6 => k_is)
    (case k6 => k_is)
    (case a7 => k_is)
    (case l7 => k_is)
    (case c7 => k_is)
    (case k7 => k_is)
    (case a8 => k_is)
    (case l8 => k_is)
    (case c8 => k_is)
    (case k8 => k_is)
    (case a9 => k_is)
    (case l9 => k_is)
    (case c9 => k_is)
    (case k9 => k_is)
    (case a10 => k_is)
    (case l10 => k_is)
    (case c10 => k_is)
    (case k10 => k_is)
    (case a11 => k_is)
    (case l11 => k_is)
    (case c11 => k_is)
    (case k11 => k_is)
    (case a12 => k_is)
    (case l12 => k_is)
    (case c12 => k_is)
    (case k12 => k_is)
    (case a13 => k_is)
    (case l13 => k_is)
    (case c13 => k_is)
    (case k13 => k_is)
    (case a14 => k_is)
    (case l14 => k_is)
    (case c14 => k_is)
    (case k14 => k_is)
    (case a15 => k_is)
    (case l15 => k_is)
    (case c15 => k_is)
    (case k15 => k_is)
    (case a16 => k_is)
    (case l16 => k_is)
    (case c16 => k_is)
    (case k16 => k_is)
    (case a17 => k_is)
    (case l17 => k_is)
    (case c17 => k_is)
    (case k17 => k_is)
    (case a18 => k_is)
    (case l18 => k_is)
    (case c18 => k_is)
    (case k18 => k_is)
    (case a19 => k_is)
    (case l19 => k_is)
    (case c19 => k_is)
    (case k19 => k_is)
    (case a20 => k_is)
    (case l20 => k_is)
    (case c20 => k_is)
    (case k20 => k_is)
    (case a21 => k_is)
    (case l21 => k_is)
    (case c21 => k_is)
    (case k21 => k_is)
    (case a22 => k_is)
    (case l22 => k_is)
    (case c22 => k_is)
    (case k22 => k_is)
    (case a23 => k_is)
    (case l23 => k_is)
    (case c23 => k_is)
    (case k23 => k_is)
    (case a24 => k_is)
    (case l24 => k_is)
    (case c24 => k_is)
    (case k24 => k_is)
    (case a25 => k_is)
    (case l25 => k_is)
    (case c25 => k_is)
    (case k25 => k_is)
    (case a26 => k_is)
    (case l26 => k_is)
    (case c26 => k_is)
    (case k26 => k_is)
    (case a27 => k_is)
    (case l27 => k_is)
    (case c27 => k_is)
    (case k27 => k_is)
    (case lv27 => k_is)
    (case ve27 => rfl)
    (case kn27 => first | rfl | kernel_rfl)
    (case rc27 => first | rfl | kernel_rfl)
    (case a28 => k_is)
    (case l28 => k_is)
    (case c28 => k_is)
    (case k28 => k_is)
    (case lv28 => k_is)
    (case ve28 => rfl)
    (case kn28 => first | rfl | kernel_rfl)
    (case rc28 => first | rfl | kernel_rfl)
    (case a29 => k_is)
    (case l29 => k_is)
    (case c29 => k_is)
    (case k29 => k_is)
    (case nq27_28 => decide)
    (case m_gcd => k_is)
    (case m_lcm => k_is)
    (case m_UnknownName => k_is)
    (case l_UnknownName => k_is)
    (case h_UnknownName => rfl)
    (case sa_UnknownName => k_is)
    (case xc_UnknownName => k_is)
    (case ty_UnknownName => k_is)
    (case kp_UnknownName => k_is)
    (case ga_UnknownName => k_is)
    (case gg_UnknownName => k_is)
    (case hd_UnknownName => k_is)
    (case i_UnknownName => k_is)
    (case t_UnknownName => k_is)
    (case l_UnknownName_init => k_is)
    (case c_UnknownName_init => k_is)
    (case k_UnknownName_init => k_is)
    (case lc_UnknownName_init => k_is)
    (case lv_UnknownName_init => k_is)
    (case v2_UnknownName_init => rfl)
    (case fe_UnknownName_init => first | rfl | decide +kernel)
    (case mr_UnknownName => k_is)
    (case sv_UnknownName => k_is)
    (case sm_UnknownName => first | ks_is | k_is)
    (case op_UnknownName => k_is)
    (case tp_UnknownName => decide +kernel)
    (case n_UnknownName_name => k_is)
    (case m_TooGreat => k_is)
    (case l_TooGreat => k_is)
    (case h_TooGreat => rfl)
    (case sa_TooGreat => k_is)
    (case xc_TooGreat => k_is)
    (case ty_TooGreat => k_is)
    (case kp_TooGreat => k_is)
    (case ga_TooGreat => k_is)
    (case gg_TooGreat => k_is)
    (case hd_TooGreat => k_is)
    (case i_TooGreat => k_is)
    (case t_TooGreat => k_is)
    (case l_TooGreat_init => k_is)
    (case c_TooGreat_init => k_is)
    (case k_TooGreat_init => k_is)
    (case lc_TooGreat_init => k_is)
    (case lv_TooGreat_init => k_is)
    (case v2_TooGreat_init => rfl)
    (case fe_TooGreat_init => first | rfl | decide +kernel)
    (case mr_TooGreat => k_is)
    (case sv_TooGreat => k_is)
    (case sm_TooGreat => first | ks_is | k_is)
    (case op_TooGreat => k_is)
    (case tp_TooGreat => decide +kernel)
    (case n_TooGreat_what => k_is)
    (case m_OutOfRange => k_is)
    (case l_OutOfRange => k_is)
    (case h_OutOfRange => rfl)
    (case sa_OutOfRange => k_is)
    (case xc_OutOfRange => k_is)
    (case ty_OutOfRange => k_is)
    (case kp_OutOfRange => k_is)
    (case ga_OutOfRange => k_is)
    (case gg_OutOfRange => k_is)
    (case hd_OutOfRange => k_is)
    (case i_OutOfRange => k_is)
    (case t_OutOfRange => k_is)
    (case l_OutOfRange_init => k_is)
    (case c_OutOfRange_init => k_is)
    (case k_OutOfRange_init => k_is)
    (case lc_OutOfRange_init => k_is)
    (case lv_OutOfRange_init => k_is)
    (case v2_OutOfRange_init => rfl)
    (case fe_OutOfRange_init => first | rfl | decide +kernel)
    (case mr_OutOfRange => k_is)
    (case sv_OutOfRange => k_is)
    (case sm_OutOfRange => first | ks_is | k_is)
    (case op_OutOfRange => k_is)
    (case tp_OutOfRange => decide +kernel)
    (case n_OutOfRange_value => k_is)
    (case e_UnknownName_TooGreat => k_is)
    (case e_TooGreat_TooGreat => k_is)
    (case e_OutOfRange_TooGreat => k_is)
    (case z_super => k_is)
    (case z_len => k_is)
    (case z_max => k_is)
    (case z_tuple => k_is)
    (case z_list => k_is)
    (case z_range => k_is)
    (case z_min => k_is)
    (case z_abs => k_is)
    (case z_zip => k_is)
    (case z_int => k_is)
    (case z_repr => k_is)
    (case n_MOST_WORDS => k_is)
    (case r_MOST_WORDS => first | exact ⟨_, rfl⟩ | rfl)
    (case n_MOST_DEPTH => k_is)
    (case r_MOST_DEPTH => first | exact ⟨_, rfl⟩ | rfl)
#print axioms PySem.Challenge.cw_halftruths_k02_put_and_used_holds
