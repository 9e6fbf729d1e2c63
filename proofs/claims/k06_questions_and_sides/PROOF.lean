import PyProof.Rows.All
import Wide.All
import OpenK.AllK
import Wide.FinOn
import HandS.Base
import HandS.Call
import HandS.List
import HandS.Ends
import HandS.EndBits
import HandS.Words
import HandS.Wide
import HandS.Conv
import HandS.Style
import HandS.TupAny
import HandS.ForMost
import HandS.Zip
import HandS.Walk
import HandS.Evl
import HandS.Exc
import HandS.ExcOwn
import HandS.ExcInit
import HandS.ExcField
import HandS.WordsExc
import HandS.TryMany
import HandS.TupMul
import HandS.IsInst
import HandS.Gcd
import HandS.Strs
import KE.KMathGC
import KE.GoesNew
import KE.GoesMore
import KE.KExcSuper
import HandS.ClsMeth
import PySem.Challenge.RW_halftruths_k06_questions_and_sides
set_option Elab.async false
set_option linter.all false
set_option maxRecDepth 100000
set_option maxHeartbeats 2000000
/-! # defs whose callers stand under no guard: what repr of a tuple or a list wants -/
namespace Gd
open PySem PySem.Spec PyProof.Rows L2

/-- as FnOk, for callers under no guard -/
structure FnG (P : Program) (w : World) (K : PySem.W.Frag) (mg : Str → Option Value) (base : Heap) (CX : CXT)
    (k : Nat) (f : Addr) (fd : FuncData) (ps : List Str) (sp : Sp) : Prop where
  len : ∀ vs H Q E, sp vs H Q E → vs.length = ps.length
  run : ∀ (A : Around) (outer : List Env) (s : Shared) (H : Hp) (args : Args) (us : List Value) (vs : List V) (Q : VK) (E : XK),
    Room k A → A.guards = some [] → Env0 P w K mg base A outer s H → BindsTo s fd args (ps.zip us) → Vals vs us →
    sp vs H Q E → codeAny (model P w) A (.call (.ref f) args) (CR CX outer P w H s Q E) s

section
variable {P : Program} {w : World} {K : PySem.W.Frag} {mg : Str → Option Value} {base : Heap} {CX : CXT} {k : Nat} {f : Addr} {fd : FuncData}
  {ps : List Str} {sp : Sp}
theorem FnG.of (F : FnOk P w K mg base CX k f fd ps sp) : FnG P w K mg base CX k f fd ps sp :=
  ⟨F.len, fun A outer s H args us vs Q E hr _ => F.run A outer s H args us vs Q E hr⟩
end

section
variable {X : Cx} {CX : CXT} {k : Nat} {f : Addr} {fd : FuncData} {ps : List Str} {sp : Sp} {dvs : List V} {ds : List Value} {E : XK}
  {x : Str} {p pos : Pos} {e : Expr} {es : List Expr} {t : TA}
theorem runG {pins : List (Addr × Obj)} {σ : L2.St} {H : Hp} {s : Shared} {Q : VK} {us : List Value} {vs : List V}
    (F : FnG X.prog X.w X.K X.mg X.base CX k f fd ps sp) (hr : Room k X.A) (gd : X.A.guards = some []) (hb : Binds X.K fd ps ds)
    (hd : Vals dvs ds) (hx : Passes CX X E) (I : Inv X pins σ H s) (r : Vals vs us) (h : sp (vs ++ dvs) H Q E) :
    wpAny (model X.prog X.w) X.A (call (.ref f) us) (EP X pins σ Q) X.xe s := by
  have both : Vals (vs ++ dvs) (us ++ ds) := r.append hd
  have many : (us ++ ds).length = ps.length := both.length.symm.trans (F.len _ _ _ _ h)
  have bound := hb s us I.kIn many
  refine wpAny_call (codeAny_mono (F.run X.A X.stack s H ⟨us, []⟩ (us ++ ds) (vs ++ dvs) Q E hr gd I.env0 bound both h) ?_)
  rintro (e | fl) s' q
  · exact hx pins σ H s e s' I q
  · cases fl <;> first | exact I.after q | exact q.elim
/-- f(e, ..) -/
theorem pe_callG (F : FnG X.prog X.w X.K X.mg X.base CX k f fd ps sp) (hr : Room k X.A) (gd : X.A.guards = some []) (hg : Gl X x)
    (hm : X.mg x = some (.ref f)) (hk : PySem.W.keepIn X.K (.ref f) = true) (hb : Binds X.K fd ps ds) (hd : Vals dvs ds) (hx : Passes CX X E)
    (ha : PA X (e :: es) t) (hdb : (x == ("__debug__" : Str)) = false := by decide)
    (he : starEach (e :: es) X.env = (false, eval e X.env) :: starEach es X.env := by rfl)
    (hpl : (backTo pos (starEach es X.env)).any (·.1) = false := by rfl) :
    PE X (.Call (.Name x p) (e :: es) [] pos) (tCall sp dvs E t) := by
  constructor
  intro pins s σ H Q I h
  apply wpAny_Call_Name_kw
  apply ld_glob I hg hm _ hdb
  refine PySem.W.callWith_K (h₀ := X.base) I.ok.mod.kin hk (thn (ha.run pos pins s σ H _ I h) ?_) he hpl
  rintro us s1 ⟨vs, H1, I1, r, q⟩
  exact ⟨I1.kIn, runG F hr gd hb hd hx I1 r q⟩
end

section
variable {P : Program} {w : World} {K : PySem.W.Frag} {mg : Str → Option Value} {base : Heap}
/-- a def of the text by its body, where no guard stands around -/
theorem okG {x qual : Str} {st : Stmt} {f : Addr} {fd : FuncData} {N ps : List Str} {k : Nat} {sp : Sp} (F : Fun K x qual st f fd)
    (S : FnScope N ps (defScope st)) (len : ∀ vs H Q E, sp vs H Q E → vs.length = ps.length)
    (body : ∀ (cdv : Value) (A : Around) (outer : List Env) (s : Shared) (H : Hp) (vs : List V) (Q : VK) (E : XK),
      Room k (A.deeper (envOfC qual (defScope st) s.heap.objs.size f cdv)) →
      (A.deeper (envOfC qual (defScope st) s.heap.objs.size f cdv)).guards = some [] → sp vs H Q E →
      ∃ t, PSs (cxOf CX0 P w K mg base N qual (defScope st) f cdv A outer s H E).nox (defBody st) t ∧
        t { nx := fun _ H' => Q .non H', rt := Q } (start N vs) H) :
    FnG P w K mg base CX0 (k + 1) f fd ps sp := by
  obtain ⟨oc, od, kV, doc, pm, an, cdv, ct, osl, rfl, lk, code⟩ := F.ex
  constructor
  · exact len
  intro A outer s H args us vs Q E hr gd e0 hb r h
  have many := len _ _ _ _ h
  have KX : K.In s.heap := e0.mod.kin.keeps fun b o q => (e0.bs b o q).1
  have lim : s.heap.NoLimit := e0.mod.nolimit.keeps fun b o q => (e0.bs b o q).1
  have kinds : ∀ y ∈ ps.zip us, (defScope st).names.lookup y.1 = some .local ∨ ((defScope st).names.lookup y.1 = some .cell ∧
      ((cellsFrom (s.heap.objs.size + 1) (defScope st).names []).lookup y.1).isSome = true) := by
    rintro ⟨n, v⟩ hy
    rcases S.par n (List.of_mem_zip hy).1 with q | q
    · left; exact q
    · right; exact ⟨q, PySem.W.cellsFrom_some _ _ _ (.inl q)⟩
  refine codeAny_call_function hr.depth (KX _ _ lk) rfl S.co S.gen rfl (PySem.W.codeRec_of KX code) (hb _ _ _ _ ?_)
  refine wpAny_newFunctionEnv_cells S.kind kinds ?_
  rintro env rfl s1 x
  refine ⟨lim.keeps x.toInCall.keep, codeAny_func ?_⟩
  obtain ⟨t, ht, q⟩ := body cdv A outer s H vs Q E (hr.deeper _) (show (A.deeper _).guards = some [] from gd) h
  have I : Inv (cxOf CX0 P w K mg base N qual (defScope st) f cdv A outer s H E) [] (start N vs) H s1 := inv_start S hr.hd e0 many r x
  refine wpAny_mono (ht.nox.run [] s1 (start N vs) H _ I q) ?_ fun e s' z => z
  rintro fl s' z
  cases fl with
  | ret u =>
    obtain ⟨v, σ', H', J, rv, q⟩ := z
    exact ⟨v, H', J.os, J.bare, J.base, J.hok, rv, q⟩
  | next =>
    obtain ⟨σ', H', J, q⟩ := z
    exact ⟨V.non, H', J.os, J.bare, J.base, J.hok, rfl, q⟩
  | brk => obtain ⟨_, _, _, q⟩ := z; exact q.elim
  | cont => obtain ⟨_, _, _, q⟩ := z; exact q.elim
end

/-! ## the end: the law is called where no guard stands -/
section
open Att
theorem law_callG {P : Program} {w : World} {K : PySem.W.Frag} {mg mb : Str → Option Value} {k : Nat} {fa a : Addr} {fd : FuncData} {x : Str}
    {sp : Sp} {s : Shared} {vs : List Value} {ns : List Int}
    (KX : K.In s.heap) (hns : s.heap.Ns mainGlobals mg) (hb : s.heap.Ns builtinsNs mb) (hbb : ∀ x : Str, x ≠ "__name__" → mb x = bootBuiltins x)
    (hlim : s.heap.NoLimit) (hg : s.gens = #[]) (ha : s.heap.get? a = some { cls := .type "list", data := .seq vs.toArray })
    (hi : IntsAre vs ns) (hl : ns.length ≤ sizeLine) (hr : Room k callerA)
    (F : ∀ base : Heap, K.In base → base.Ns mainGlobals mg → FnG P w K mg base CX0 k fa fd [x] sp)
    (hbind : ∀ (s : Shared) (u : Value), BindsTo s fd ⟨[u], []⟩ [(x, u)])
    (hsp : ∀ H : Hp, Only H → SqL K H a (ns.map V.int) → sp [.ref a] H (fun v _ => v = .bl true) fun _ _ _ => False) :
    codeAny (model P w) callerA (.call (.ref fa) ⟨[.ref a], []⟩)
      (fun r s' => r = .ok (.ret (.bool true)) ∧ OldK s.heap s'.heap ∧ s'.os = s.os ∧ AllBare s'.gens) s := by
  -- over an abstract heap that knows at most the script
  have core : ∀ H : Hp, Only H → SqL K H a (ns.map V.int) → HOk P w H s.heap → (∀ b, H b ≠ none → b = a) → (H a ≠ none → K.lookup a = none) →
      codeAny (model P w) callerA (.call (.ref fa) ⟨[.ref a], []⟩)
        (fun r s' => r = .ok (.ret (.bool true)) ∧ OldK s.heap s'.heap ∧ s'.os = s.os ∧ AllBare s'.gens) s := by
    intro H only hS ok hA hK
    have free : ∀ {b : Addr} {o : Obj} {es : Array DictEntry} {ep : Nat}, s.heap.get? b = some o → o.data = .dict es ep → H b = none := by
      intro b o es ep q d
      cases z : H b with
      | none => rfl
      | some u =>
        obtain rfl : b = a := hA b (by rw [z]; exact fun y => nomatch y)
        obtain rfl : _ = o := Option.some.inj (ha.symm.trans q)
        exact nomatch d
    have ns_ : ∀ {b : Addr} {m : Str → Option Value}, s.heap.Ns b m → (hidT s.heap H).Ns b m := by
      rintro b m ⟨o, es, ep, q, d, z⟩
      exact ⟨o, es, ep, hidT_get q (free q d), d, z⟩
    have KB : K.In (hidT s.heap H) := by
      intro b o q
      refine hidT_get (KX b o q) ?_
      cases z : H b with
      | none => rfl
      | some u =>
        obtain rfl : b = a := hA b (by rw [z]; exact fun y => nomatch y)
        rw [hK (by rw [z]; exact fun y => nomatch y)] at q
        cases q
    obtain ⟨mc, l1, l2⟩ := hlim
    have M : Mod K mg (hidT s.heap H) := ⟨KB, ns_ hns, ⟨mb, ns_ hb, hbb⟩, mc, ns_ l1, l2⟩
    have e0 : Env0 P w K mg (hidT s.heap H) callerA [] s H :=
      ⟨rfl, M, fun b o q => of_hidT q, Nat.le_of_eq (hidT_size _ _), trivial, (fun b z => by cases z), ok, .of_eq hg⟩
    refine codeAny_mono ((F _ KB (ns_ hns)).run callerA [] s H ⟨[.ref a], []⟩ [.ref a] [.ref a] _ _ hr rfl e0 (hbind s (.ref a))
      (.cons rfl .nil) (hsp H only hS)) ?_
    rintro (e | fl) s' h
    · exact (show False from h).elim
    · cases fl with
      | next => exact (show False from h).elim
      | brk => exact (show False from h).elim
      | cont => exact (show False from h).elim
      | ret u =>
        obtain ⟨v, H', os, bare, un, ok', rel, q⟩ := h
        obtain rfl : v = .bl true := q
        obtain rfl : u = Value.bool true := rel
        refine ⟨rfl, OldK.of_keep ?_, os, bare⟩
        intro b o q
        cases z : H b with
        | none => exact un.keep b o q z (fun y => by cases y) (fun y => by cases y)
        | some u =>
          rcases only b with y | ⟨ob, xs, y⟩
          · rw [z] at y; cases y
          · obtain ⟨q1, _⟩ := ok b _ y
            obtain ⟨q2, _⟩ := ok' b _ (un.frzs b ob _ y)
            rw [q] at q1
            cases q1
            exact q2
  have rv := vals_ints hi
  have many := hi.length
  cases hk : K.lookup a with
  | some o =>
    have q := KX a o hk
    rw [ha] at q
    cases q
    refine core (fun _ => none) (fun _ => .inl rfl) (.inr ⟨_, vs.toArray, _, hk, rfl, rfl, rfl, ?_, by simpa using rv⟩) (fun b u z => by cases z) (fun b z => absurd rfl z)
      fun z => absurd rfl z
    rw [List.size_toArray, many]
    exact hl
  | none =>
    have at_a : ∀ {b : Addr} {u : HO}, (if b = a then some (HO.frz { cls := .type "list", data := .seq vs.toArray } (.lst (ns.map V.int))) else none) = some u →
        b = a ∧ u = .frz { cls := .type "list", data := .seq vs.toArray } (.lst (ns.map V.int)) := by
      intro b u z
      by_cases e : b = a
      · rw [if_pos e] at z
        exact ⟨e, (Option.some.inj z).symm⟩
      · rw [if_neg e] at z
        cases z
    refine core (fun b => if b = a then some (.frz { cls := .type "list", data := .seq vs.toArray } (.lst (ns.map V.int))) else none) ?_
      (.inl (.inr ⟨{ cls := .type "list", data := .seq vs.toArray }, if_pos rfl⟩)) ?_ ?_ fun _ => hk
    · intro b
      by_cases e : b = a
      · exact .inr ⟨_, _, if_pos e⟩
      · exact .inl (if_neg e)
    · intro b u z
      obtain ⟨rfl, rfl⟩ := at_a z
      exact ⟨ha, by rw [List.length_map]; exact hl, vs, _, rv, ha⟩
    · intro b z
      by_cases e : b = a
      · exact e
      · exact absurd (if_neg e) z
theorem walkG {l : PySem.W.OpenLaw} {n k : Nat} {q : Program} {loose : List Str} {XP : (Str → Option Value) → Heap → Prop} {YP : World → Heap → Prop}
    {d : DefRec} {K : Params → PySem.W.Frag} {sp : World → Sp} {x : Str}
    (hn : l.most = some n) (hn2 : n ≤ sizeLine) (hdf : d.params.defaults = []) (hr : Room k callerA)
    (hY : ∀ (w : World) (h : Heap), YP w h → (K w.params).In h)
    (F : ∀ (w : World) (mg : Str → Option Value) (fa : Addr) (h : Heap), (K w.params).In h → h.Ns mainGlobals mg → mg d.name = some (.ref fa) →
      ∃ fd : FuncData, (∀ (s : Shared) (u : Value), BindsTo s fd ⟨[u], []⟩ [(x, u)]) ∧
        ∀ base : Heap, (K w.params).In base → base.Ns mainGlobals mg → FnG l.prog w (K w.params) mg base CX0 k fa fd [x] (sp w))
    (hsp : ∀ (w : World) (H : Hp) (a : Addr) (ns : List Int), ns.length ≤ n → (∀ z ∈ ns, Builtin.Int.intBits z ≤ 1048576) → Only H →
      SqL (K w.params) H a (ns.map V.int) → sp w [.ref a] H (fun v _ => v = .bl true) fun _ _ _ => False) :
    PySem.W.WalkO q loose XP YP l.row.toRowW d [] (fun f vs => PySem.call f vs) := by
  refine attach_callB hn hdf ?_
  intro w s₀ s₁ mg mb fa o pm cd doc a vs ns G Y ho hd hcd hmg hobj hints hlen hbits hg
  obtain ⟨fd, hb, hF⟩ := F w mg fa _ (hY w _ Y) G.T.g hmg
  refine law_callG (hY w _ Y) G.T.g G.T.b G.T.builtins G.T.nolimit hg hobj hints (Nat.le_trans hlen hn2) hr hF hb ?_
  intro H only hS
  exact hsp w H a ns hlen hbits only hS
end

/-! ## repr of data -/
section
variable {X : Cx}
def rRepr (K : PySem.W.Frag) : List V → Hp → VK → Prop := fun vs H Q => ∃ v d, vs = [v] ∧ Dp K H v d ∧ d.showable = true ∧ d.hasDict = false ∧
  d.depth ≤ 150 ∧ d.shown.length ≤ sizeLine ∧ Q (.str d.shown) H
theorem call_reprD {k : Nat} (gd : X.A.guards = some []) (hr : Room k X.A) : CallR X (.builtin "repr") (rRepr X.K) := by
  intro pins s σ H vs us Q I r h
  obtain ⟨v, d, rfl, hd, sh, nd, dp, sz, q⟩ := h
  obtain ⟨u, rfl, rv⟩ : ∃ u, us = [u] ∧ RelV v u := by
    cases r with
    | cons a b =>
      cases b
      exact ⟨_, rfl, a⟩
  obtain ⟨as, rd⟩ := Dp.reads I d v u hd rv
  have room := hr.un
  have fin : ∀ h' t tk, (∀ b o, s.heap.get? b = some o → h'.get? b = some o) → EP X pins σ Q (.str d.shown t) { s with heap := h', toks := tk } := fun h' t tk keep =>
    ⟨.str d.shown, H, I.kept keep, ⟨t, rfl⟩, q⟩
  have nodict : d.hasDict = true → sysModules ∉ as := fun z => by rw [nd] at z; cases z
  by_cases hu : ∃ a, u = .ref a
  · obtain ⟨a, rfl⟩ := hu
    exact repr_of_reads' rd sh nodict gd (by omega) (fun _ _ e => e) fin sz
  · cases hd with
    | non =>
      cases rv
      refine PySem.P.repr_of_none ?_
      simp only [PyData.shown] at fin
      exact fin s.heap _ _ fun _ _ e => e
    | bl b =>
      cases rv
      refine PySem.P.repr_of_bool ?_
      simp only [PyData.shown] at fin
      exact fin s.heap _ _ fun _ _ e => e
    | int i =>
      obtain ⟨t, rfl⟩ := rv
      refine PySem.P.repr_of_int (by simpa [PyData.showable] using sh) ?_
      simp only [PyData.shown] at fin
      exact fin s.heap _ _ fun _ _ e => e
    | str x =>
      obtain ⟨t, rfl⟩ := rv
      refine PySem.P.repr_of_str ?_ (by simpa only [PyData.shown] using sz)
      simp only [PyData.shown] at fin
      exact fin s.heap _ _ fun _ _ e => e
    | lst _ _ => exact absurd ⟨_, rv⟩ hu
    | tup _ _ => exact absurd ⟨_, rv⟩ hu
end
end Gd

/-! # t[::-1] of a tuple, xs.extend(t), products of great ints -/
namespace Gd
open PySem PySem.Spec PyProof.Rows L2 HT

section
variable {prog : Program} {w : World} {A : Around} {E : Value → Shared → Prop} {s : Shared}
theorem adjust_back (n : Nat) : Builtin.Slice.sliceAdjust none none (-1) (n : Int) = ((n : Int) - 1, -1) := rfl
theorem places_back (n : Nat) : Builtin.Slice.slicePlaces ((n : Int) - 1) (-1) (-1) = n := by
  unfold Builtin.Slice.slicePlaces
  rw [if_neg (by decide)]
  by_cases h : 0 < n
  · rw [if_pos (show (n : Int) - 1 > -1 by omega)]
    show (((n : Int) - 1 - (-1) - 1) / 1 + 1).toNat = n
    rw [Int.ediv_one]
    omega
  · rw [if_neg (show ¬ (n : Int) - 1 > -1 by omega)]
    omega
theorem pick_back (xs : Array Value) : ((List.range xs.size).filterMap fun (k : Nat) => xs[((xs.size : Int) - 1 + (k : Int) * (-1)).toNat]?).toArray = xs.toList.reverse.toArray := by
  congr 1
  have e : ∀ l : List Nat, (∀ k ∈ l, k < xs.size) → (l.filterMap fun (k : Nat) => xs[((xs.size : Int) - 1 + (k : Int) * (-1)).toNat]?) = l.filterMap fun k => xs.toList.reverse[k]? := by
    intro l hl
    induction l with
    | nil => rfl
    | cons k r ih =>
      have hk := hl k List.mem_cons_self
      have e1 : ((xs.size : Int) - 1 + (k : Int) * (-1)).toNat = xs.size - 1 - k := by omega
      have e2 : xs[((xs.size : Int) - 1 + (k : Int) * (-1)).toNat]? = xs.toList.reverse[k]? := by
        rw [e1, List.getElem?_reverse (by simpa using hk)]
        simp
      rw [List.filterMap_cons, List.filterMap_cons, e2, ih fun j hj => hl j (List.mem_cons_of_mem _ hj)]
  rw [e _ fun k hk => List.mem_range.mp hk]
  have all : ∀ ys : List Value, ((List.range ys.length).filterMap fun k => ys[k]?) = ys := by
    intro ys
    induction ys with
    | nil => rfl
    | cons y r ih =>
      rw [List.length_cons, List.range_succ_eq_map, List.filterMap_cons]
      show y :: List.filterMap _ (List.map Nat.succ (List.range r.length)) = y :: r
      rw [List.filterMap_map]
      exact congrArg (y :: ·) ih
  have q := all xs.toList.reverse
  rw [List.length_reverse, Array.length_toList] at q
  exact q
theorem applied_back {sl : Addr} {vs : Value} {n : Nat} {Q : Int × Int × Nat → Shared → Prop} (hs : s.heap.IsSliceOf sl .none .none vs) (ps : IsPart vs (some (-1)))
    (h : Q ((n : Int) - 1, -1, n) s) : wpAny (model prog w) A (Builtin.Slice.sliceApplied (.ref sl) (pure (n : Int))) Q E s := by
  obtain ⟨os, hos, hcs, hds⟩ := id hs
  unfold Builtin.Slice.sliceApplied Builtin.Slice.sliceFields
  refine wpAny_bind (wpAny_bind (wpAny_field hos hds (x := .none) rfl ?_))
  refine wpAny_bind (wpAny_field hos hds (x := .none) rfl ?_)
  refine wpAny_bind (wpAny_field hos hds (x := vs) rfl ?_)
  refine wpAny_pure ?_
  refine wpAny_bind (slicePart_ ps ?_)
  show wpAny _ _ (if ((-1 : Int) == 0) = true then _ else _) _ _ s
  rw [if_neg (by decide)]
  refine wpAny_bind (slicePart_none (wpAny_bind (slicePart_none (wpAny_bind (wpAny_pure ?_)))))
  show wpAny _ _ (pure ((n : Int) - 1, (-1 : Int), Builtin.Slice.slicePlaces ((n : Int) - 1) (-1) (-1))) _ _ s
  rw [places_back]
  exact wpAny_pure h
theorem tuple_back {t sl : Addr} {items : Array Value} {vs : Value} {Q : Value → Shared → Prop} (ht : IsTup s.heap t items) (hs : s.heap.IsSliceOf sl .none .none vs)
    (ps : IsPart vs (some (-1))) (hsz : items.size ≤ sizeLine)
    (h : Q (.ref s.heap.objs.size) { s with heap := s.heap.push { cls := .type "tuple", data := .seq items.toList.reverse.toArray } }) :
    wpAny (model prog w) A (getItem (.ref t) (.ref sl)) Q E s := by
  have fit : sizeOk (.seq items.toList.reverse.toArray) := by
    show items.toList.reverse.toArray.size ≤ sizeLine
    simpa using hsz
  obtain ⟨os, hos, hcs, hds⟩ := id hs
  have hTs : s.TypeIs (.ref sl) "slice" := ⟨os, hos, hcs⟩
  unfold getItem
  try with_reducible refine wpAny_holding ?_
  first | refine wpAny_bind (wpAny_pure ?_) | skip
  refine wpAny_bind (wpAny_sequenceKey ht.typeIs (by decide) ?_)
  refine wpAny_bind (wpAny_callSpecial?_slot (name := Str.ofString "__getitem__") ht.typeIs slot_tuple_getitem
    (wpAny_call_entry slot_tuple_getitem ht.typeIs entry_tuple_getitem ?_ (args_tuple_getitem _ _)))
  show wpAny _ _ (Builtin.Tuple.tupleItemsOf (.ref t) >>= _) _ _ s
  refine wpAny_bind (tupleItemsOf_ ht (wpAny_bind (wpAny_typeOf hTs ?_)))
  rw [if_pos (by decide)]
  refine wpAny_bind (applied_back hs ps ?_)
  have no : ¬ ((((items.size : Int) - 1) == 0 && (-1 : Int) == 1 && items.size == items.size) = true) := by
    rw [show ((-1 : Int) == 1) = false from rfl, Bool.and_false, Bool.false_and]
    exact Bool.false_ne_true
  show wpAny _ _ (if (((items.size : Int) - 1) == 0 && (-1 : Int) == 1 && items.size == items.size) = true then _ else _) _ _ s
  rw [if_neg no, pick_back]
  first
    | exact wpAny_bind (m := Builtin.Tuple.tupleExact _) (wpAny_newObj_type (wpAny_pure ⟨_, rfl, wpAny_pure h⟩) fit)
    | exact wpAny_bind (wpAny_bind (m := Builtin.Tuple.tupleExact _) (wpAny_newObj_type (wpAny_pure (wpAny_pure ⟨_, rfl, wpAny_pure h⟩)) fit))
    | exact wpAny_bind (wpAny_bind (m := Builtin.Tuple.tupleExact _) (wpAny_newObj_type (wpAny_pure ⟨_, rfl, wpAny_pure h⟩) fit))
end
section
variable {X : Cx}
def tRevT (K : PySem.W.Frag) (te : TE) : TE := fun σ H Q => te σ H fun x H1 => ∃ a xs, x = .ref a ∧ SqT K H1 a xs ∧ ∀ p, H1 p = none → Q (.ref p) (upd H1 p (.tup xs.reverse))
theorem pe_revT {e : Expr} {te : TE} {k : Nat} {p1 p2 p3 pos : Pos} (he : PE X e te) :
    PE X (.Subscript e (.Slice none none (some (.UnaryOp .USub (.Constant (.int 1) k p1) p2)) p3) pos) (tRevT X.K te) := by
  constructor
  intro pins s σ H Q I h
  refine Subscript_ (thn (he.run pins s σ H _ I h) ?_)
  rintro v s1 ⟨x, H1, I1, r1, a, xs, rfl, hx, q⟩
  cases r1
  have step : PO X (some (.UnaryOp .USub (.Constant (.int 1) k p1) p2)) (tPart (tUn (rU fun i => .int (-i)) (tC (.int 1)))) := po_some (pe_un un_neg pe_int)
  refine wpAny_Slice (wpAny_of_eq (a := .none) (by first | exact evalPart_none .. | rfl) ?_)
  refine wpAny_of_eq (a := .none) (by first | exact evalPart_none .. | rfl) ?_
  refine thn (step.run pins s1 σ H1 (fun o H4 => o = some (-1) ∧ H4 = H1) I1 ⟨1, rfl, -1, rfl, rfl, rfl⟩) ?_
  rintro vs s4 ⟨o, H4, I4, ps, rfl, rfl⟩
  have I5 : Inv X pins σ H4 { s4 with heap := s4.heap.push { cls := .type "slice", data := .fields #[.none, .none, vs] } } :=
    I4.kept (t' := s4.toks) fun b ob q => Heap.get?_push_of_some _ q
  obtain ⟨its, r, ht, hz⟩ := I5.tuple hx
  have many := r.length
  show wpAny (model X.prog X.w) X.A (subscriptTail e (.Slice none none (some (.UnaryOp .USub (.Constant (.int 1) k p1) p2)) p3) (.ref a) (.ref s4.heap.objs.size))
    (EP X pins σ Q) X.xe { s4 with heap := s4.heap.push { cls := .type "slice", data := .fields #[.none, .none, vs] } }
  refine tail_any (ops := [.ref a, .ref s4.heap.objs.size]) ht.typeIs slot_tuple_getitem.lookup ?_ (by with_unfolding_all rfl)
  refine tuple_back ht (Heap.IsSliceOf.new _ _ _ vs) ps (by rw [List.size_toArray]; omega) ?_
  refine ⟨.ref _, _, I5.laid (t' := s4.toks) (o := .tup xs.reverse) (fun b ob q => Heap.get?_push_of_some _ q) (Nat.le_refl _) ?_, rfl, q _ (I5.hok.fresh (Nat.le_refl _))⟩
  exact ⟨by rw [List.length_reverse]; exact hz, its.reverse, r.reverse, ⟨_, Heap.get?_push_size _ rfl, rfl, _, rfl⟩⟩

set_option maxRecDepth 8000 in
theorem extend_tup (l : Addr) (items : Array Value) (n : Nat) (b : Addr) (items2 : Array Value) (n2 : Nat) (dd : Option Addr) (sl : Array (Option Value))
    (short : ¬(!items.isEmpty && Builtin.List.listTooLong (items.size + items2.size)) = true) (fit : items.size ≤ sizeLine)
    (fit2 : items.size + items2.size ≤ sizeLine + 1) :
    Meets (Builtin.«list.extend» ⟨[.ref l, .ref b], []⟩) (fun _ R s => s.heap.get? l = some { cls := .type "list", dict := none, data := .seq items n, slots := #[] } ∧
      s.heap.get? b = some { cls := .type "tuple", dict := dd, data := .seq items2 n2, slots := sl } ∧
      R (.ok (.ret Value.none)) { s with heap := s.heap.update l (Obj.mapSeq fun x => x ++ items2), toks := s.toks }) := by
  refine .of_wp fun prog w A R s h => ?_
  obtain ⟨hp, g, d, tk, os⟩ := s
  obtain ⟨hl, hb, h⟩ := h
  have f2 := AutoSeq1.sub_tuple_tuple
  have f3 := AutoSeq1.sub_list_list
  have f4 := AutoSeq1.sub_tuple_list
  have f5 := AutoSeq1.sub_list_tuple
  have whole : (items ++ items2).size ≤ sizeLine + 1 := by rw [Array.size_append]; exact fit2
  wp_walk using (wpAny_updateSeq hl rfl (hz := fit) (_hz' := whole)), AutoSeq1.wpAny_loadPart' hl, AutoSeq1.wpAny_loadPart' hb
  exact ⟨_, rfl, h⟩
/-- xs.extend(t), t a tuple -/
def rExtT (K : PySem.W.Frag) : V → List V → Hp → VK → Prop := fun x vs H Q => ∃ l b xs zs, x = .ref l ∧ vs = [.ref b] ∧ H l = some (.lst xs) ∧ H b = some (.tup zs) ∧
  xs.length + zs.length ≤ sizeLine ∧ Q .non (upd H l (.lst (xs ++ zs)))
theorem mt_extT : MtM X "list.extend" (rExtT X.K) := by
  intro pins s σ H x vs v us Q I rx rv h
  obtain ⟨l, b, xs, zs, rfl, rfl, hH, hB, hz, q⟩ := h
  cases rx
  obtain ⟨u, rfl, ru⟩ := rv.one
  cases ru
  obtain ⟨z, its, n, r, hl, e⟩ := I.lstM hH
  obtain ⟨z2, its2, r2, ⟨ob, ho, hc, n2, hd⟩⟩ := I.hok b _ hB
  have r2l := r2.length
  have fit : its.toArray.size + its2.toArray.size ≤ sizeLine := by
    rw [List.size_toArray, List.size_toArray]
    have := r.length
    omega
  have short : ¬ (!its.toArray.isEmpty && Builtin.List.listTooLong (its.toArray.size + its2.toArray.size)) = true := by
    rw [notLongL fit, Bool.and_false]
    exact Bool.false_ne_true
  obtain ⟨cls, dd, data, sl⟩ := ob
  simp only at hc hd
  subst hc hd
  refine call_meets F.slot_list_extend ⟨_, e, rfl⟩ F.entry_list_extend (F.args_list_extend_2 _ _)
    (extend_tup l its.toArray n b its2.toArray n2 dd sl short (by rw [List.size_toArray]; omega) (by omega)) ⟨e, ho, ?_⟩
  refine ⟨.non, _, I.lset (its' := its ++ its2) hH e (by simp) (r.append r2) ?_, rfl, q⟩
  rw [List.length_append]
  omega
/-- products of two factors of together less than a hundred million bits -/
def CMulB (i j : Int) : Prop := i.natAbs.log2 + j.natAbs.log2 < 100000000
theorem bits_le (x : Int) : Builtin.Int.intBits x ≤ x.natAbs.log2 + 1 := by
  unfold Builtin.Int.intBits
  split <;> omega
theorem CMulB.ok {i j : Int} (h : CMulB i j) : IntMulOk i j := by
  have h1 := bits_le i
  have h2 := bits_le j
  unfold CMulB at h
  intro z
  have z2 := (Bool.and_eq_true _ _ ▸ z : _ ∧ _).2
  unfold Builtin.Int.intTooBig at z2
  have z3 := of_decide_eq_true z2
  rw [show bitsLine = 134217728 by decide] at z3
  omega
theorem op_mulB : OpR X (binaryOp .Mult) (rI CMulB fun i j => .int (i * j)) := opI fun _ _ _ _ _ _ _ hc q => mul_int q hc.ok
end
end Gd

/-! # heaps but for one object; the state from which a law draws -/
namespace Gd
open PySem PySem.Spec PyProof.Rows L2

/-- all that was tracked is as it was, but for what stands at m -/
def Kp (m : Addr) (H H' : Hp) : Prop := ∀ b o, b ≠ m → H b = some o → H' b = some o
section
variable {H H1 H2 : Hp} {m p q : Addr} {o u : HO} {xs : List V}
theorem _root_.L2.Same.seqT {K : PySem.W.Frag} {H H' : Hp} {a : Addr} {xs : List V} (e : Same H H') (h : SqT K H a xs) : SqT K H' a xs := by
  rcases h with (h | ⟨o, h⟩) | h
  · exact .inl (.inl (e _ _ h))
  · exact .inl (.inr ⟨o, e _ _ h⟩)
  · exact .inr h
theorem Kp.refl : Kp m H H := fun _ _ _ h => h
theorem Kp.trans (a : Kp m H H1) (b : Kp m H1 H2) : Kp m H H2 := fun c o h z => b c o h (a c o h z)
theorem Kp.of (s : Same H H1) : Kp m H H1 := fun c o _ z => s c o z
theorem _root_.L2.Same.new (h : H p = none) (o : HO) : Same H (upd H p o) := fun b u e => by
  rw [upd_ne (ne_of_none e h)]
  exact e
theorem Kp.new (h : H p = none) (o : HO) : Kp m H (upd H p o) := Kp.of (Same.new h o)
theorem Kp.at (o : HO) : Kp m H (upd H m o) := fun b u h e => by
  rw [upd_ne h]
  exact e
theorem Kp.put (k : Kp m H H1) (o : HO) : Kp m H (upd H1 m o) := k.trans (Kp.at o)
theorem Kp.get (k : Kp m H H1) (h : H p = some o) (hm : H m = some u) (d : o ≠ u) : H1 p = some o := k p o (ne_of h hm d) h
/-- a new object changed after it was made -/
theorem _root_.L2.Same.put (s : Same H H1) (h : H p = none) (o : HO) : Same H (upd H1 p o) := fun b u e => by
  rw [upd_ne (ne_of_none e h)]
  exact s b u e
theorem Kp.put' (s : Kp m H H1) (h : H p = none) (o : HO) : Kp m H (upd H1 p o) := fun b u hb e => by
  rw [upd_ne (ne_of_none e h)]
  exact s b u hb e
theorem Kp.free (k : Kp m H H1) (h : H1 p = none) (hm : p ≠ m) : H p = none := by
  cases z : H p with
  | none => rfl
  | some o =>
    rw [k p o hm z] at h
    cases h
theorem ne_new (h : H p = some o) (n : H q = none) : p ≠ q := ne_of_none h n
end

/-! ## the state -/
def mk (l s : Int) (c : Addr) (p : Int) : List (Key × V) :=
  [(.inr "left", .int l), (.inr "seed", .int s), (.inr "cells", .ref c), (.inr "spot", .int p)]
section
variable {H : Hp} {m c : Addr} {l s p l' p' : Int}
theorem val_left : valV (mk l s c p) (.inr "left") = some (.int l) := rfl
theorem val_seed : valV (mk l s c p) (.inr "seed") = some (.int s) := rfl
theorem val_cells : valV (mk l s c p) (.inr "cells") = some (.ref c) := rfl
theorem val_spot : valV (mk l s c p) (.inr "spot") = some (.int p) := rfl
theorem put_left : putK (mk l s c p) (.inr "left") (.int l') = mk l' s c p := rfl
theorem put_spot : putK (mk l s c p) (.inr "spot") (.int p') = mk l s c p' := rfl
theorem merge_mk : mergeK [] (mk l s c p) = mk l s c p := rfl
end
end Gd

/-! # readings, step by step -/
namespace Gd
open PySem PySem.Spec PyProof.Rows L2
section
variable {K : PySem.W.Frag} {σ : L2.St} {H : Hp} {Q : VK} {QB : Bool → Hp → Prop} {QA : List V → Hp → Prop} {QO : Option Int → Hp → Prop} {QS : L2.St → Hp → Prop}
  {D : Ends} {te ta tb tc td ty tv tl th : TE} {tt uu : TT} {t u : TS} {ts tr : TA} {g : TG} {v x y : V} {a p : Addr} {xs ys : List V} {i j : Int} {n k : Nat} {b : Bool} {c : Prop} [Decidable c]
theorem rd_seq (h : t { D with nx := u D } σ H) : tSeq t u D σ H := h
theorem rd_next (h : D.nx σ H) : tNext D σ H := h
theorem rd_brk (h : D.bk σ H) : tBreak D σ H := h
theorem rd_cnt (h : D.ct σ H) : tCont D σ H := h
theorem rd_asg (h : te σ H fun v H1 => D.nx (σ.set n (some v)) H1) : tAsg te (gName n) D σ H := h
theorem rd_drop (h : te σ H fun _ H1 => D.nx σ H1) : tDrop te D σ H := h
theorem rd_ret (h : te σ H fun v H1 => D.rt v H1) : tRet te D σ H := h
theorem rd_retN (h : D.rt .non H) : tRetN D σ H := h
theorem rd_ifs (h : tt σ H fun b H1 => if b = true then t D σ H1 else u D σ H1) : tIfS tt t u D σ H := h
theorem rd_par (h : ts σ H fun vs H1 => ∃ v w, vs = [v, w] ∧ D.nx ((σ.set n (some v)).set k (some w)) H1) : tPar n k ts D σ H := h
theorem rd_pair {P : V → V → Prop} (h : P x y) : ∃ v w, [x, y] = [v, w] ∧ P v w := ⟨x, y, rfl, h⟩
theorem rd_var (e : σ[n]? = some (some v)) (h : Q v H) : tVar n σ H Q := ⟨v, e, h⟩
theorem rd_c (h : Q v H) : tC v σ H Q := h
theorem rd_op {r : R2} (h : ta σ H fun x H1 => tb σ H1 fun y H2 => r x y H2 Q) : tOp r ta tb σ H Q := h
theorem rd_un {r : V → Hp → VK → Prop} (h : ta σ H fun x H1 => r x H1 Q) : tUn r ta σ H Q := h
theorem rd_cb {r : List V → Hp → VK → Prop} (h : ts σ H fun vs H1 => r vs H1 Q) : tCB r ts σ H Q := h
theorem rd_call {sp : Sp} {dvs : List V} {E : XK} (h : ts σ H fun vs H1 => sp (vs ++ dvs) H1 Q E) : tCall sp dvs E ts σ H Q := h
theorem rd_nil (h : QA [] H) : tNil σ H QA := h
theorem rd_cons (h : ta σ H fun x H1 => tr σ H1 fun xs H2 => QA (x :: xs) H2) : tCons ta tr σ H QA := h
theorem rd_tup (h : ts σ H fun xs H1 => xs.length ≤ sizeLine ∧ ∀ p, H1 p = none → Q (.ref p) (upd H1 p (.tup xs))) : tTup ts σ H Q := h
theorem rd_lst (h : ts σ H fun xs H1 => xs.length ≤ sizeLine ∧ ∀ p, H1 p = none → Q (.ref p) (upd H1 p (.lst xs))) : tLst ts σ H Q := h
theorem rd_if (h : tt σ H fun c H1 => if c = true then ta σ H1 Q else tb σ H1 Q) : tIf tt ta tb σ H Q := h
theorem rd_test (h : te σ H fun x H1 => ∃ k, x = .bl k ∧ QB k H1) : tTest te σ H QB := h
theorem rd_tb (h : te σ H fun x H1 => ∃ k, x = .bl k ∧ QB k H1) : tB te σ H QB := h
theorem rd_bl {P : Bool → Prop} (h : P b) : ∃ k, V.bl b = .bl k ∧ P k := ⟨b, rfl, h⟩
theorem rd_and (h : tt σ H fun c H1 => if c = true then uu σ H1 QB else QB false H1) : tAnd tt uu σ H QB := h
theorem rd_or (h : tt σ H fun c H1 => if c = true then QB true H1 else uu σ H1 QB) : tOr tt uu σ H QB := h
theorem rd_not (h : tt σ H fun c H1 => QB (!c) H1) : tNot tt σ H QB := h
theorem rd_andV (h : ta σ H fun x H1 => ∃ c, x = .bl c ∧ if c = true then tb σ H1 Q else Q (.bl false) H1) : tAndV ta tb σ H Q := h
theorem rd_orV (h : ta σ H fun x H1 => ∃ c, x = .bl c ∧ if c = true then Q (.bl true) H1 else tb σ H1 Q) : tOrV ta tb σ H Q := h
theorem rd_notV (h : ta σ H fun x H1 => ∃ c, x = .bl c ∧ Q (.bl (!c)) H1) : tNotV ta σ H Q := h
theorem rd_sl {r : V → Option Int → Option Int → Hp → VK → Prop} {tl th : TO} (h : te σ H fun x H1 => tl σ H1 fun l H2 => th σ H2 fun u H3 => r x l u H3 Q) : tSl r te tl th σ H Q := h
theorem rd_nopart (h : QO none H) : tNoPart σ H QO := h
theorem rd_part (h : te σ H fun x H1 => ∃ i, x = .int i ∧ QO (some i) H1) : tPart te σ H QO := h
theorem rd_int {P : Int → Prop} (h : P i) : ∃ k, V.int i = .int k ∧ P k := ⟨i, rfl, h⟩
theorem rd_dget (h : td σ H fun x H1 => ty σ H1 fun y H2 => ∃ a v, x = .ref a ∧ DGet H2 a y (some v) ∧ Q v H2) : tDGet td ty σ H Q := h
theorem rd_dgetK {P : V → Prop} {kvs : List (Key × V)} {z : Str} (hm : H a = some (.dK kvs)) (hv : valV kvs (.inr z) = some v) (h : P v) :
    ∃ b w, V.ref a = .ref b ∧ DGet H b (.str z) (some w) ∧ P w := ⟨a, v, rfl, .inl ⟨kvs, .inr z, .inl hm, rfl, hv.symm⟩, h⟩
theorem rd_dput (h : tv σ H fun v H1 => td σ H1 fun x H2 => ty σ H2 fun y H3 => ∃ a H4, x = .ref a ∧ DPut H3 a y v H4 ∧ D.nx σ H4) : sDPut td ty tv D σ H := h
theorem rd_dputK {P : Hp → Prop} {kvs kvs' : List (Key × V)} {z : Str} (hm : H a = some (.dK kvs)) (hv : putK kvs (.inr z) v = kvs') (hl : kvs.length < 1000000) (h : P (upd H a (.dK kvs'))) :
    ∃ b H4, V.ref a = .ref b ∧ DPut H b (.str z) v H4 ∧ P H4 := ⟨a, _, rfl, .inl ⟨kvs, .inr z, hm, rfl, Nat.lt_of_lt_of_le hl (by decide), rfl⟩, by rw [hv]; exact h⟩
theorem rd_i0 {f : Int → Int → V} (h : Q (f i j) H) : rI0 f (.int i) (.int j) H Q := ⟨i, j, rfl, rfl, h⟩
theorem rd_i {C : Int → Int → Prop} {f : Int → Int → V} (hc : C i j) (h : Q (f i j) H) : rI C f (.int i) (.int j) H Q := ⟨i, j, rfl, rfl, hc, h⟩
theorem rd_u {f : Int → V} (h : Q (f i) H) : rU f (.int i) H Q := ⟨i, rfl, h⟩
theorem rd_eq (hs : scal x y = true) (h : Q (.bl (decide (x = y))) H) : rEq x y H Q := ⟨hs, h⟩
theorem rd_ne (hs : scal x y = true) (h : Q (.bl (!decide (x = y))) H) : rNe x y H Q := ⟨hs, h⟩
theorem rd_intI {A : Int → Prop} {B : Prop} (h : A i) : (∃ k, [V.int i] = [V.int k] ∧ A k) ∨ B := .inl ⟨i, rfl, h⟩
theorem rd_ixL (hs : SqL K H a xs) (hv : atI xs i = some v) (h : Q v H) : rIxL K (.ref a) (.int i) H Q := ⟨a, xs, i, v, rfl, rfl, hs, hv, h⟩
theorem rd_ixT (hs : SqT K H a xs) (hv : atI xs i = some v) (h : Q v H) : rIxT K (.ref a) (.int i) H Q := ⟨a, xs, i, v, rfl, rfl, hs, hv, h⟩
theorem rd_slL {lo hi : Option Int} (hs : SqL K H a xs) (h : ∀ p, H p = none → Q (.ref p) (upd H p (.lst (cutV xs lo hi)))) : rSlL K (.ref a) lo hi H Q := ⟨a, xs, rfl, hs, h⟩
theorem rd_cat (hl : H a = some (.lst xs)) (hb : H p = some (.lst ys)) (hz : xs.length + ys.length ≤ 1000000) (h : ∀ q, H q = none → Q (.ref q) (upd H q (.lst (xs ++ ys)))) :
    rCat (.ref a) (.ref p) H Q := ⟨a, p, xs, ys, rfl, rfl, hl, hb, Nat.le_trans hz (by decide), h⟩
theorem rd_len {A : List V → Prop} (hs : SqL K H a xs ∨ SqT K H a xs) (h : A xs) : ∃ p ys, [V.ref a] = [V.ref p] ∧ (SqL K H p ys ∨ SqT K H p ys) ∧ A ys := ⟨a, xs, rfl, hs, h⟩
theorem rd_true (h : c) {A B : Prop} (q : A) : if decide c = true then A else B := by rw [decide_eq_true h]; exact iteT q
theorem rd_false (h : ¬ c) {A B : Prop} (q : B) : if decide c = true then A else B := by rw [decide_eq_false h]; exact iteF q
/-- a test of which nothing is known: two ways -/
theorem rd_two {A B : Prop} (h1 : c → A) (h2 : ¬ c → B) : if decide c = true then A else B := by
  by_cases h : c
  · exact rd_true h (h1 h)
  · exact rd_false h (h2 h)
theorem sqL (h : H a = some (.lst xs)) : SqL K H a xs := .inl (.inl h)
theorem sqT (h : H a = some (.tup xs)) : SqT K H a xs := .inl (.inl h)
end
theorem atI_in {α : Type} {xs : List α} {i : Int} (h0 : 0 ≤ i) (h1 : i < (xs.length : Int)) : ∃ v, atI xs i = some v ∧ xs[i.toNat]? = some v ∧ v ∈ xs := by
  obtain ⟨j, rfl⟩ : ∃ j : Nat, i = (j : Int) := ⟨i.toNat, by omega⟩
  have hj : j < xs.length := by omega
  refine ⟨xs[j], atI_nat (List.getElem?_eq_getElem hj), ?_, List.getElem_mem hj⟩
  show xs[j]? = some xs[j]
  exact List.getElem?_eq_getElem hj
theorem atI_mod {α : Type} {xs : List α} (p : Int) (h : xs ≠ []) : ∃ v, atI xs (p % (xs.length : Int)) = some v ∧ v ∈ xs := by
  have h0 : 0 < xs.length := List.length_pos_iff.mpr h
  obtain ⟨v, e, _, m⟩ := atI_in (xs := xs) (Int.emod_nonneg p (b := (xs.length : Int)) (by omega)) (Int.emod_lt_of_pos p (by omega))
  exact ⟨v, e, m⟩
section
variable {X : Cx} (K : PySem.W.Frag)
/-- the rules that speak of the written part, with its name given -/
theorem ix_tupK (h : X.K = K := by rfl) : IxR X (rIxT K) := h ▸ ix_tup
theorem ix_listK (h : X.K = K := by rfl) : IxR X (rIxL K) := h ▸ ix_list
theorem in_seqK (h : X.K = K := by rfl) : OpR X (compareOp .In) (rIn K false) := h ▸ op_in_seq
theorem notIn_seqK (h : X.K = K := by rfl) : OpR X (compareOp .NotIn) (rIn K true) := h ▸ op_notIn_seq
theorem len_seqK (h : X.K = K := by rfl) : CallR X (.builtin "len") (fun xs H Q => ∃ p ys, xs = [.ref p] ∧ (SqL K H p ys ∨ SqT K H p ys) ∧ Q (.int ys.length) H) := h ▸ call_len_seq
theorem sl_listK (h : X.K = K := by rfl) : SlR X (rSlL K) := h ▸ sl_list
theorem sl_tupK (h : X.K = K := by rfl) : SlR X (rSlT K) := h ▸ sl_tup
theorem tuple_ofK (h : X.K = K := by rfl) : CallR X (.type "tuple") (fun xs H Q => ∃ p ys, xs = [.ref p] ∧ ((SqL K H p ys ∧ ∀ l, H l = none → Q (.ref l) (upd H l (.tup ys))) ∨ (SqT K H p ys ∧ Q (.ref p) H))) := h ▸ call_tuple_of
theorem list_ofK (h : X.K = K := by rfl) : CallR X (.type "list") (fun xs H Q => ∃ p ys, xs = [.ref p] ∧ (SqL K H p ys ∨ SqT K H p ys) ∧ ∀ l, H l = none → Q (.ref l) (upd H l (.lst ys))) := h ▸ call_list_of
theorem sumK (hc : X.calm = true := by rfl) (h : X.K = K := by rfl) : CallR X (.builtin "sum") (rSum K) := h ▸ cr_sum hc
theorem allK (hc : X.calm = true := by rfl) (h : X.K = K := by rfl) : CallR X (.builtin "all") (rAll K) := h ▸ cr_all hc
theorem eqDK (hu : X.A.units + 64 < cLine) (h : X.K = K := by rfl) : OpR X (compareOp .Eq) (rEqD K) := h ▸ op_eqD hu
theorem neDK (hu : X.A.units + 64 < cLine) (h : X.K = K := by rfl) : OpR X (compareOp .NotEq) (rNeD K) := h ▸ op_neD hu
theorem reprK {k : Nat} (gd : X.A.guards = some []) (hr : Room k X.A) (h : X.K = K := by rfl) : CallR X (.builtin "repr") (rRepr K) := h ▸ call_reprD gd hr
end
end Gd

/-! # loops and comprehensions -/
namespace Gd
open PySem PySem.Spec PyProof.Rows L2 RZ
section
variable {K : PySem.W.Frag} {σ : L2.St} {H H1 : Hp} {Q : VK} {D : Ends} {te tl : TE} {tt : TT} {tb : TS} {ts : TA} {wi : TI} {R : It → Hp → Prop} {g : TG} {vs : List Nat} {a b : Addr} {xs ys : List V} {j i1 i2 n : Nat}
theorem rd_for (h : wi σ H fun J H1 => ∃ W : Nat → Nat → L2.St → Hp → Prop, (∃ m, W 0 m σ H1) ∧ ∀ i m σ H, W i m σ H →
    (J.stop i H ∧ D.nx σ H) ∨ (J.go i H ∧ ∃ N : L2.St → Hp → Prop, (∀ σ' H', N σ' H' → ∃ m', m' < m ∧ W (i + 1) m' σ' H') ∧
      ∀ x H', J.yld i H x H' → g x σ H' fun σ2 H2 => tb { D with nx := N, ct := N, bk := D.nx } σ2 H2)) : tFor wi g tb D σ H := h
theorem rd_lc (h : wi σ H fun J H1 => ∀ D, H1 D = none → ∃ W : Nat → Nat → Hp → Prop, (∃ m, W 0 m (upd H1 D (.lst []))) ∧ ∀ i m H, W i m H →
    (J.stop i H ∧ Q (.ref D) H) ∨ (J.go i H ∧ ∃ Nx : Hp → Prop, (∀ H', Nx H' → ∃ m', m' < m ∧ W (i + 1) m' H') ∧
      ∀ x H', J.yld i H x H' → g x (wipe σ vs) H' fun σ2 H2 => wipe σ2 vs = wipe σ vs ∧ tt σ2 H2 fun b H3 =>
        if b = true then te σ2 H3 fun y H4 => ∃ acc, H4 D = some (.lst acc) ∧ acc.length < sizeLine ∧ Nx (upd H4 D (.lst (acc ++ [y]))) else Nx H3)) :
    tLc wi g tt te vs σ H Q := h
theorem rd_iL (h : tl σ H fun x H1 => ∃ a, x = .ref a ∧ (∃ xs, SqL K H1 a xs) ∧ R (Itl K a) H1) : iList K tl σ H R := h
theorem rd_iT (h : tl σ H fun x H1 => ∃ a, x = .ref a ∧ (∃ xs, SqT K H1 a xs) ∧ R (Itt K a) H1) : iTup K tl σ H R := h
theorem rd_iR1 (h : ts σ H fun vs H1 => ∃ j : Int, vs = [.int j] ∧ -(2 ^ 62) ≤ j ∧ j < 2 ^ 62 ∧ R (Itr 0 j.toNat) H1) : iRng1 ts σ H R := h
theorem rd_iZ (h : ts σ H fun vs H1 => ∃ a b xs ys, vs = [.ref a, .ref b] ∧ ((SqL K H1 a xs ∧ SqL K H1 b ys ∧ R (Itz K a b) H1) ∨ (SqT K H1 a xs ∧ SqT K H1 b ys ∧ R (ItzT K a b) H1))) : iZipA K ts σ H R := h
theorem rd_atL {P : Addr → Prop} (h : SqL K H a xs) (q : P a) : ∃ b, V.ref a = .ref b ∧ (∃ xs, SqL K H b xs) ∧ P b := ⟨a, rfl, ⟨xs, h⟩, q⟩
theorem rd_atT {P : Addr → Prop} (h : SqT K H a xs) (q : P a) : ∃ b, V.ref a = .ref b ∧ (∃ xs, SqT K H b xs) ∧ P b := ⟨a, rfl, ⟨xs, h⟩, q⟩
theorem rd_atR {P : Int → Prop} {i : Int} (h0 : 0 ≤ i) (h1 : i ≤ 1000000) (q : P i) : ∃ j : Int, [V.int i] = [.int j] ∧ -(2 ^ 62) ≤ j ∧ j < 2 ^ 62 ∧ P j := ⟨i, rfl, by omega, by omega, q⟩
theorem rd_atZ {P P' : Addr → Addr → Prop} (h : SqT K H a xs) (h' : SqT K H b ys) (q : P' a b) :
    ∃ c d zs ws, [V.ref a, V.ref b] = [.ref c, .ref d] ∧ ((SqL K H c zs ∧ SqL K H d ws ∧ P c d) ∨ (SqT K H c zs ∧ SqT K H d ws ∧ P' c d)) := ⟨a, b, xs, ys, rfl, .inr ⟨h, h', q⟩⟩
theorem rd_yes {QB : Bool → Hp → Prop} (h : QB true H) : tYes σ H QB := h
theorem rd_gname {v : V} {QS : L2.St → Hp → Prop} (h : QS (σ.set n (some v)) H) : gName n v σ H QS := h
theorem rd_gtup {QS : L2.St → Hp → Prop} {t : TGs} (h : SqT K H a xs) (hn : xs.length = n) (q : t xs σ H QS) : gTup K n t (.ref a) σ H QS := ⟨a, xs, rfl, h, hn, q⟩
theorem rd_gcons {QS : L2.St → Hp → Prop} {t : TG} {u : TGs} {v : V} {r : List V} (q : t v σ H fun σ' H' => u r σ' H' QS) : gCons t u (v :: r) σ H QS := ⟨v, r, rfl, q⟩
theorem rd_gnil {QS : L2.St → Hp → Prop} (q : QS σ H) : gNil [] σ H QS := ⟨rfl, q⟩
theorem rd_tyL {P : Prop} (h : SqL K H a xs) (q : P) : tyV K "list" (.ref a) H ∧ P := ⟨.inl ⟨rfl, _, h⟩, q⟩

theorem rd_asgG (h : te σ H fun v H1 => g v σ H1 D.nx) : tAsg te g D σ H := h
theorem rd_ii {P : Int → Int → Prop} {i j : Int} (h : P i j) : ∃ k l, [V.int i, V.int j] = [.int k, .int l] ∧ P k l := ⟨i, j, rfl, h⟩
theorem max_nat (a b : Nat) : (if (b : Int) > (a : Int) then (b : Int) else (a : Int)) = ((max a b : Nat) : Int) := by
  split <;> omega
theorem min_nat (a b : Nat) : (if (b : Int) < (a : Int) then (b : Int) else (a : Int)) = ((min a b : Nat) : Int) := by
  split <;> omega
theorem rd_disp {trs : List (TE × TE)} (h : ∀ p, H p = none → tPairs trs σ (upd H p (.dK [])) fun ps H2 => H2 p = some (.dK []) ∧
    ∃ kvs : List (Key × V), ps = kvs.map (fun kv => (kV kv.1, kv.2)) ∧ kvs.length ≤ 15 ∧ Q (.ref p) (upd H2 p (.dK (mergeK [] kvs)))) : tDisp trs σ H Q := h
theorem rd_pcons {tk tv : TE} {r : List (TE × TE)} {QP : List (V × V) → Hp → Prop} (h : tk σ H fun x H1 => tv σ H1 fun y H2 => tPairs r σ H2 fun ps H3 => QP ((x, y) :: ps) H3) :
    tPairs ((tk, tv) :: r) σ H QP := h
theorem rd_pnil {QP : List (V × V) → Hp → Prop} (h : QP [] H) : tPairs [] σ H QP := h
theorem cut_ints (ns : List Int) (lo hi : Option Int) : ∃ ms : List Int, cutV (ns.map V.int) lo hi = ms.map V.int ∧ ms.length ≤ ns.length := by
  refine ⟨(ns.drop (HT.sIx ns.length 0 lo)).take (HT.sIx ns.length ns.length hi - HT.sIx ns.length 0 lo), ?_, ?_⟩
  · unfold cutV
    rw [List.length_map, List.map_take, List.map_drop]
  · rw [List.length_take, List.length_drop]
    omega
open Evl in
theorem given_ints (n : Nat) (f : Nat → Bool) (h : Nat → Int) : given n f (fun i => V.int (h i)) = (((List.range n).filter f).map h).map V.int := by
  unfold given
  rw [List.map_map]
  rfl
theorem forL {Nx : L2.St → Hp → Prop} {Rt : VK} (Pv : Nat → L2.St → Hp → Prop) (h0 : Pv 0 σ H) (hl : ∀ i σ H, i ≤ xs.length → Pv i σ H → SqL K H a xs)
    (hs : ∀ i x σ H, xs[i]? = some x → Pv i σ H → g x σ H fun σ2 H2 => tb { nx := Pv (i + 1), rt := Rt, ct := Pv (i + 1), bk := Nx } σ2 H2) (hd : ∀ σ H, Pv xs.length σ H → Nx σ H) :
    ∃ W : Nat → Nat → L2.St → Hp → Prop, (∃ m, W 0 m σ H) ∧ ∀ i m σ H, W i m σ H → ((Itl K a).stop i H ∧ Nx σ H) ∨ ((Itl K a).go i H ∧ ∃ N : L2.St → Hp → Prop,
      (∀ σ' H', N σ' H' → ∃ m', m' < m ∧ W (i + 1) m' σ' H') ∧ ∀ x H', (Itl K a).yld i H x H' → g x σ H' fun σ2 H2 => tb { nx := N, rt := Rt, bk := Nx, ct := N } σ2 H2) :=
  for_list (D := { nx := Nx, rt := Rt }) Pv h0 hl hs hd
theorem forT {Nx : L2.St → Hp → Prop} {Rt : VK} (Pv : Nat → L2.St → Hp → Prop) (h0 : Pv 0 σ H) (hl : ∀ i σ H, i ≤ xs.length → Pv i σ H → SqT K H a xs)
    (hs : ∀ i x σ H, xs[i]? = some x → Pv i σ H → g x σ H fun σ2 H2 => tb { nx := Pv (i + 1), rt := Rt, ct := Pv (i + 1), bk := Nx } σ2 H2) (hd : ∀ σ H, Pv xs.length σ H → Nx σ H) :
    ∃ W : Nat → Nat → L2.St → Hp → Prop, (∃ m, W 0 m σ H) ∧ ∀ i m σ H, W i m σ H → ((Itt K a).stop i H ∧ Nx σ H) ∨ ((Itt K a).go i H ∧ ∃ N : L2.St → Hp → Prop,
      (∀ σ' H', N σ' H' → ∃ m', m' < m ∧ W (i + 1) m' σ' H') ∧ ∀ x H', (Itt K a).yld i H x H' → g x σ H' fun σ2 H2 => tb { nx := N, rt := Rt, bk := Nx, ct := N } σ2 H2) :=
  for_tup (D := { nx := Nx, rt := Rt }) Pv h0 hl hs hd
theorem forR {Nx : L2.St → Hp → Prop} {Rt : VK} {lo : Int} (Pv : Nat → L2.St → Hp → Prop) (h0 : Pv 0 σ H) 
    (hs : ∀ i σ H, i < n → Pv i σ H → g (.int (lo + i)) σ H fun σ2 H2 => tb { nx := Pv (i + 1), rt := Rt, ct := Pv (i + 1), bk := Nx } σ2 H2) (hd : ∀ σ H, Pv n σ H → Nx σ H) :
    ∃ W : Nat → Nat → L2.St → Hp → Prop, (∃ m, W 0 m σ H) ∧ ∀ i m σ H, W i m σ H → ((Itr lo n).stop i H ∧ Nx σ H) ∨ ((Itr lo n).go i H ∧ ∃ N : L2.St → Hp → Prop,
      (∀ σ' H', N σ' H' → ∃ m', m' < m ∧ W (i + 1) m' σ' H') ∧ ∀ x H', (Itr lo n).yld i H x H' → g x σ H' fun σ2 H2 => tb { nx := N, rt := Rt, bk := Nx, ct := N } σ2 H2) :=
  for_range (D := { nx := Nx, rt := Rt }) Pv h0 hs hd
theorem walk_zipT {n : Nat} (hn : n = min xs.length ys.length) : Walk (ItzT K a b) n (fun H => SqT K H a xs ∧ SqT K H b ys) (YPair (fun i => xs[i]?) (fun i => ys[i]?)) := by
  subst hn
  refine ⟨?_, ?_, ?_⟩
  · intro i _ hi q
    have h1 : i < xs.length := by omega
    have h2 : i < ys.length := by omega
    exact ⟨xs, ys, xs[i], ys[i], q.1, q.2, by simp [h1], by simp [h2]⟩
  · intro _ q
    exact ⟨xs, ys, q.1, q.2, by omega⟩
  · intro i H v H' _ q y
    obtain ⟨T, x, z, h1, h2, h3, h4, h5⟩ := y
    exact ⟨T, x, z, h1, h2, h3, h4 xs q.1, h5 ys q.2⟩

open Evl in
/-- a comprehension whose turns change nothing that stood: the turn's item is src i, kept if f i, giving v i -/
theorem lc_src {J : It} {G : Hp → Prop} {Y : Nat → Hp → V → Hp → Prop} {Dl : Addr} {Qd : Hp → Prop} (w : Walk J n G Y) (src : Nat → V)
    (hy : ∀ i H x H', i < n → Y i H x H' → H' = H ∧ x = src i) (f : Nat → Bool) (v : Nat → V) (hn : n ≤ 1000000) (hD : H1 Dl = none)
    (hG : ∀ H', Same H1 H' → G H') (hw : ∀ x, wipe ((wipe σ vs).set j (some x)) vs = wipe σ vs)
    (ht : ∀ i H' (R : Bool → Hp → Prop), i < n → Same H1 H' → R (f i) H' → tt ((wipe σ vs).set j (some (src i))) H' R)
    (he : ∀ i H' (R : VK), i < n → f i = true → Same H1 H' → (∀ H'', Same H' H'' → R (v i) H'') → te ((wipe σ vs).set j (some (src i))) H' R)
    (hd : ∀ H', Same H1 H' → H' Dl = some (.lst (given n f v)) → Qd H') :
    ∃ W : Nat → Nat → Hp → Prop, (∃ m, W 0 m (upd H1 Dl (.lst []))) ∧ ∀ i m H, W i m H →
      (J.stop i H ∧ Qd H) ∨ (J.go i H ∧ ∃ Nx : Hp → Prop, (∀ H', Nx H' → ∃ m', m' < m ∧ W (i + 1) m' H') ∧
        ∀ x H', J.yld i H x H' → gName j x (wipe σ vs) H' fun σ2 H2 => wipe σ2 vs = wipe σ vs ∧ tt σ2 H2 fun b H3 =>
          if b = true then te σ2 H3 fun y H4 => ∃ acc, H4 Dl = some (.lst acc) ∧ acc.length < sizeLine ∧ Nx (upd H4 Dl (.lst (acc ++ [y]))) else Nx H3) := by
  refine lc_it w (fun i H' => Same H1 H' ∧ H' Dl = some (.lst (given i f v))) ⟨Same.new hD _, upd_same⟩ (fun i H' _ p => hG H' p.1) ?_ fun H' p => hd H' p.1 p.2
  intro i x H H' hi p y
  obtain ⟨rfl, rfl⟩ := hy i H x H' hi y
  refine ⟨hw _, ht i H' _ hi p.1 ?_⟩
  cases hf : f i with
  | false =>
    refine iteF ⟨p.1, ?_⟩
    rw [given_no hf]
    exact p.2
  | true =>
    refine iteT (he i H' _ hi hf p.1 fun H'' s => ⟨given i f v, s _ _ p.2, ?_, ?_, ?_⟩)
    · have := given_len i f v
      rw [sizeLine_eq]
      omega
    · exact Same.put (p.1.trans s) hD _
    · rw [given_yes hf]
      exact upd_same
open Evl in
/-- the same over zip of two tuples -/
theorem lc_zip {Dl : Addr} {Qd : Hp → Prop} (v : Nat → V) (hl : xs.length = ys.length) (hn : xs.length ≤ 1000000) (hD : H1 Dl = none)
    (hx : SqT K H1 a xs) (hy : SqT K H1 b ys) (hw : ∀ x y, wipe (((wipe σ vs).set i1 (some x)).set i2 (some y)) vs = wipe σ vs)
    (he : ∀ i x y H' (R : VK), xs[i]? = some x → ys[i]? = some y → Same H1 H' → (∀ H'', Same H' H'' → R (v i) H'') →
      te (((wipe σ vs).set i1 (some x)).set i2 (some y)) H' R)
    (hd : ∀ H', Same H1 H' → H' Dl = some (.lst ((List.range xs.length).map v)) → Qd H') :
    ∃ W : Nat → Nat → Hp → Prop, (∃ m, W 0 m (upd H1 Dl (.lst []))) ∧ ∀ i m H, W i m H →
      ((ItzT K a b).stop i H ∧ Qd H) ∨ ((ItzT K a b).go i H ∧ ∃ Nx : Hp → Prop, (∀ H', Nx H' → ∃ m', m' < m ∧ W (i + 1) m' H') ∧
        ∀ x H', (ItzT K a b).yld i H x H' → gTup K 2 (gCons (gName i1) (gCons (gName i2) gNil)) x (wipe σ vs) H' fun σ2 H2 => wipe σ2 vs = wipe σ vs ∧ tYes σ2 H2 fun b H3 =>
          if b = true then te σ2 H3 fun y H4 => ∃ acc, H4 Dl = some (.lst acc) ∧ acc.length < sizeLine ∧ Nx (upd H4 Dl (.lst (acc ++ [y]))) else Nx H3) := by
  refine lc_it (walk_zipT (n := xs.length) (xs := xs) (ys := ys) (by omega)) (fun i H' => Same H1 H' ∧ H' Dl = some (.lst ((List.range i).map v)))
    ⟨Same.new hD _, upd_same⟩ (fun i H' _ p => ⟨p.1.seqT hx, p.1.seqT hy⟩) ?_ fun H' p => hd H' p.1 p.2
  rintro i z H H' hi ⟨s, e⟩ ⟨T, x, y, rfl, nT, rfl, ex, ey⟩
  have s' : Same H1 (upd H T (.tup [x, y])) := s.trans (Same.new nT _)
  have nDT : Dl ≠ T := ne_of_none e nT
  refine rd_gtup (xs := [x, y]) (sqT upd_same) rfl (rd_gcons (rd_gname (rd_gcons (rd_gname (rd_gnil ⟨hw x y, ?_⟩)))))
  refine rd_yes (iteT (he i x y _ _ ex ey s' fun H'' s'' => ⟨(List.range i).map v, s'' _ _ (by rw [upd_ne nDT]; exact e), ?_, ?_, ?_⟩))
  · rw [List.length_map, List.length_range, sizeLine_eq]
    omega
  · exact Same.put (s'.trans s'') hD _
  · rw [upd_same, List.range_succ, List.map_append]
    rfl
end
end Gd

/-! # sayings -/
namespace Gd
open PySem PySem.Spec PyProof.Rows L2

inductive Mk6 where
  | plus | times | leads | and | or | same
def Mk6.str : Mk6 → Str
  | .plus => "plus" | .times => "times" | .leads => "leads" | .and => "and" | .or => "or" | .same => "same"
inductive Say where
  | unk (x : Str) | yes | no | not (a : Say) | bin (k : Mk6) (a b : Say)
def Say.head : Say → Str
  | .unk _ => "unknown" | .yes => "yes" | .no => "no" | .not _ => "not" | .bin k _ _ => k.str
def Say.kids : Say → List Say
  | .unk _ => [] | .yes => [] | .no => [] | .not a => [a] | .bin _ a b => [a, b]
def Say.isUnk : Say → Bool
  | .unk _ => true | _ => false
def Say.depth : Say → Nat
  | .unk _ => 0 | .yes => 0 | .no => 0 | .not a => a.depth + 1 | .bin _ a b => max a.depth b.depth + 1
def Say.words : Say → Nat
  | .unk _ => 1 | .yes => 1 | .no => 1 | .not a => a.words + 1 | .bin _ a b => a.words + b.words + 1
def Say.marks : Say → Nat
  | .unk _ => 0 | .yes => 0 | .no => 0 | .not a => a.marks | .bin _ a b => a.marks + b.marks + 1
/-- the names, as often as they stand there -/
def Say.leaves : Say → List Str
  | .unk x => [x] | .yes => [] | .no => [] | .not a => a.leaves | .bin _ a b => a.leaves ++ b.leaves
def Say.namesIn : Say → List Str → List Str
  | .unk x, f => if x ∈ f then f else f ++ [x]
  | .yes, f => f | .no, f => f | .not a, f => a.namesIn f | .bin _ a b, f => b.namesIn (a.namesIn f)
/-- all words in writing order -/
def Say.all : Say → List Say
  | .unk x => [.unk x] | .yes => [.yes] | .no => [.no] | .not a => .not a :: a.all | .bin k a b => .bin k a b :: (a.all ++ b.all)
def SayAt (H : Hp) : Say → V → Prop
  | .unk x, v => ∃ p, v = .ref p ∧ H p = some (.tup [.str "unknown", .str x])
  | .yes, v => ∃ p, v = .ref p ∧ H p = some (.tup [.str "yes"])
  | .no, v => ∃ p, v = .ref p ∧ H p = some (.tup [.str "no"])
  | .not a, v => ∃ p u, v = .ref p ∧ H p = some (.tup [.str "not", u]) ∧ SayAt H a u
  | .bin k a b, v => ∃ p u w, v = .ref p ∧ H p = some (.tup [.str k.str, u, w]) ∧ SayAt H a u ∧ SayAt H b w
/-- tuples stay -/
def Tk (H H' : Hp) : Prop := ∀ p xs, H p = some (.tup xs) → H' p = some (.tup xs)
section
variable {H H' H1 : Hp} {s : Say} {v : V} {m : Addr}
theorem Tk.refl : Tk H H := fun _ _ h => h
theorem Tk.trans (a : Tk H H1) (b : Tk H1 H') : Tk H H' := fun p xs h => b p xs (a p xs h)
theorem Tk.of (h : Same H H') : Tk H H' := fun p xs e => h _ _ e
theorem Tk.kp {kvs : List (Key × V)} (h : Kp m H H') (e : H m = some (.dK kvs)) : Tk H H' := fun p xs q => h.get q e (fun z => nomatch z)
theorem SayAt.keep (t : Tk H H') : ∀ {s : Say} {v : V}, SayAt H s v → SayAt H' s v
  | .unk x, v, ⟨p, e, h⟩ => ⟨p, e, t _ _ h⟩
  | .yes, v, ⟨p, e, h⟩ => ⟨p, e, t _ _ h⟩
  | .no, v, ⟨p, e, h⟩ => ⟨p, e, t _ _ h⟩
  | .not a, v, ⟨p, u, e, h, ha⟩ => ⟨p, u, e, t _ _ h, SayAt.keep t ha⟩
  | .bin k a b, v, ⟨p, u, w, e, h, ha, hb⟩ => ⟨p, u, w, e, t _ _ h, SayAt.keep t ha, SayAt.keep t hb⟩
/-- sayings at values, one by one -/
inductive SaysAt (H : Hp) : List Say → List V → Prop
  | nil : SaysAt H [] []
  | cons {s : Say} {v : V} {ss : List Say} {vs : List V} : SayAt H s v → SaysAt H ss vs → SaysAt H (s :: ss) (v :: vs)
theorem SaysAt.keep (t : Tk H H') : ∀ {ss : List Say} {vs : List V}, SaysAt H ss vs → SaysAt H' ss vs
  | _, _, .nil => .nil
  | _, _, .cons a b => .cons (SayAt.keep t a) (SaysAt.keep t b)
theorem SaysAt.length : ∀ {ss : List Say} {vs : List V}, SaysAt H ss vs → ss.length = vs.length
  | _, _, .nil => rfl
  | _, _, .cons a b => congrArg Nat.succ b.length
theorem SaysAt.get : ∀ {ss : List Say} {vs : List V} {i : Nat} {v : V}, SaysAt H ss vs → vs[i]? = some v → ∃ s, ss[i]? = some s ∧ SayAt H s v
  | _, _, i, v, .nil, e => by simp at e
  | _, _, 0, v, .cons a b, e => by
    obtain rfl := Option.some.inj e
    exact ⟨_, rfl, a⟩
  | _, _, i + 1, v, .cons a b, e => b.get (i := i) e
theorem SaysAt.append : ∀ {ss tt : List Say} {vs ws : List V}, SaysAt H ss vs → SaysAt H tt ws → SaysAt H (ss ++ tt) (vs ++ ws)
  | _, _, _, _, .nil, b => b
  | _, _, _, _, .cons a r, b => .cons a (r.append b)
/-- the tuple of a saying -/
theorem SayAt.node : ∀ {s : Say} {v : V}, SayAt H s v → ∃ p items, v = .ref p ∧ H p = some (.tup (.str s.head :: items)) ∧
    ((∃ x, s = .unk x ∧ items = [.str x]) ∨ (s.isUnk = false ∧ SaysAt H s.kids items))
  | .unk x, v, ⟨p, e, h⟩ => ⟨p, _, e, h, .inl ⟨x, rfl, rfl⟩⟩
  | .yes, v, ⟨p, e, h⟩ => ⟨p, _, e, h, .inr ⟨rfl, .nil⟩⟩
  | .no, v, ⟨p, e, h⟩ => ⟨p, _, e, h, .inr ⟨rfl, .nil⟩⟩
  | .not a, v, ⟨p, u, e, h, ha⟩ => ⟨p, _, e, h, .inr ⟨rfl, .cons ha .nil⟩⟩
  | .bin k a b, v, ⟨p, u, w, e, h, ha, hb⟩ => ⟨p, _, e, h, .inr ⟨rfl, .cons ha (.cons hb .nil)⟩⟩
theorem kid_depth : ∀ {s t : Say}, t ∈ s.kids → t.depth < s.depth
  | .not a, t, h => by
    obtain rfl := List.mem_singleton.mp h
    exact Nat.lt_succ_self _
  | .bin k a b, t, h => by
    have e : t = a ∨ t = b := by simpa [Say.kids] using h
    show t.depth < max a.depth b.depth + 1
    rcases e with rfl | rfl <;> omega
theorem kids_le (s : Say) : s.kids.length ≤ 2 := by cases s <;> simp [Say.kids]
theorem mk6_unk : ∀ k : Mk6, ¬ V.str k.str = V.str "unknown" := by
  intro k
  cases k <;> decide +kernel
theorem mk6_not : ∀ k : Mk6, ¬ V.str k.str = V.str "not" := by
  intro k
  cases k <;> decide +kernel
theorem head_unk {s : Say} (h : s.isUnk = false) : ¬ V.str s.head = V.str "unknown" := by
  cases s with
  | unk x => cases h
  | yes => exact (by decide +kernel : ¬ V.str "yes" = V.str "unknown")
  | no => exact (by decide +kernel : ¬ V.str "no" = V.str "unknown")
  | not a => exact (by decide +kernel : ¬ V.str "not" = V.str "unknown")
  | bin k a b => exact mk6_unk k
def marksV : List V := [.str "plus", .str "times", .str "leads", .str "and", .str "or", .str "same"]
def Say.isBin : Say → Bool
  | .bin _ _ _ => true | _ => false
def Say.isNot : Say → Bool
  | .not _ => true | _ => false
theorem mk6_marks : ∀ k : Mk6, inV (.str k.str) marksV = true := by
  intro k
  cases k <;> decide +kernel
theorem in_marks (s : Say) : inV (.str s.head) marksV = s.isBin := by
  cases s with
  | unk x => exact (by decide +kernel : inV (.str "unknown") marksV = false)
  | yes => exact (by decide +kernel : inV (.str "yes") marksV = false)
  | no => exact (by decide +kernel : inV (.str "no") marksV = false)
  | not a => exact (by decide +kernel : inV (.str "not") marksV = false)
  | bin k a b => exact mk6_marks k
theorem head_not (s : Say) : decide (V.str s.head = V.str "not") = s.isNot := by
  cases s with
  | unk x => exact (by decide +kernel : decide (V.str "unknown" = V.str "not") = false)
  | yes => exact (by decide +kernel : decide (V.str "yes" = V.str "not") = false)
  | no => exact (by decide +kernel : decide (V.str "no" = V.str "not") = false)
  | not a => exact (by decide +kernel : decide (V.str "not" = V.str "not") = true)
  | bin k a b => exact decide_eq_false (mk6_not k)
theorem cut_tail (x : V) (xs : List V) : cutV (x :: xs) (some 1) none = xs := by
  unfold cutV
  have e1 : HT.sIx (x :: xs).length 0 (some 1) = 1 := by
    rw [show HT.sIx (x :: xs).length 0 (some 1) = min 1 (x :: xs).length from HT.sIx_nat _ 0 1]
    rw [List.length_cons]
    omega
  rw [e1, HT.sIx_none, List.length_cons, Nat.add_sub_cancel]
  exact List.take_length
theorem inV_strs (x : Str) (fs : List Str) : inV (.str x) (fs.map V.str) = decide (x ∈ fs) := by
  unfold inV
  rw [List.any_map]
  induction fs with
  | nil => rfl
  | cons y r ih =>
    rw [List.any_cons, ih]
    show ((y == x) || decide (x ∈ r)) = decide (x ∈ y :: r)
    by_cases e : x = y
    · subst e
      simp
    · have e' : ¬ y = x := fun z => e z.symm
      simp [e, e']
theorem flat_strs (fs : List Str) : (fs.map V.str).all flatV = true := by
  rw [List.all_map]
  exact List.all_eq_true.mpr fun x _ => rfl
section
variable {K : PySem.W.Frag} {H : Hp} {Q : VK} {a : Addr} {x : V} {xs : List V}
theorem rd_in (hs : SqL K H a xs ∨ SqT K H a xs) (hx : flatV x = true) (hf : xs.all flatV = true) {b : Bool} (hb : inV x xs = b) (h : Q (.bl b) H) : rIn K false x (.ref a) H Q := by
  refine ⟨a, xs, rfl, hs, hx, hf, ?_⟩
  rw [hb]
  exact h
theorem rd_tail (hs : SqT K H a (x :: xs)) (h : ∀ p, H p = none → Q (.ref p) (upd H p (.tup xs))) : rSlT K (.ref a) (some 1) none H Q := by
  refine ⟨a, x :: xs, rfl, hs, ?_, ?_⟩
  · rintro ⟨z, _⟩
    rw [show HT.sIx (x :: xs).length 0 (some 1) = min 1 (x :: xs).length from HT.sIx_nat _ 0 1, List.length_cons] at z
    omega
  · rw [cut_tail]
    exact h
end
def wsum (l : List Say) : Nat := (l.map Say.words).sum
theorem words_kids : ∀ s : Say, s.words = wsum s.kids + 1 := by
  intro s
  cases s <;> simp [Say.words, Say.kids, wsum]
theorem wsum_take {l : List Say} {i : Nat} {k : Say} (h : l[i]? = some k) : wsum (l.take i) + k.words ≤ wsum l := by
  induction l generalizing i with
  | nil => simp at h
  | cons x r ih =>
    cases i with
    | zero =>
      obtain rfl := Option.some.inj h
      show 0 + x.words ≤ x.words + wsum r
      omega
    | succ i =>
      have := ih (i := i) h
      show x.words + wsum (r.take i) + k.words ≤ x.words + wsum r
      omega
theorem names_len : ∀ (s : Say) (f : List Str), (s.namesIn f).length ≤ f.length + s.words
  | .unk x, f => by
    show (if x ∈ f then f else f ++ [x]).length ≤ f.length + 1
    split
    · omega
    · simp
  | .yes, f => Nat.le_add_right _ _
  | .no, f => Nat.le_add_right _ _
  | .not a, f => Nat.le_trans (names_len a f) (by show f.length + a.words ≤ f.length + (a.words + 1); omega)
  | .bin k a b, f => by
    have h1 := names_len a f
    have h2 := names_len b (a.namesIn f)
    show (b.namesIn (a.namesIn f)).length ≤ f.length + (a.words + b.words + 1)
    omega
def foldNames (l : List Say) (f : List Str) : List Str := l.foldl (fun f k => k.namesIn f) f
theorem fold_len (l : List Say) : ∀ f, (foldNames l f).length ≤ f.length + wsum l := by
  induction l with
  | nil => intro f; exact Nat.le_add_right _ _
  | cons x r ih =>
    intro f
    have h1 := ih (x.namesIn f)
    have h2 := names_len x f
    show (foldNames r (x.namesIn f)).length ≤ f.length + (x.words + wsum r)
    omega
theorem fold_more {l : List Say} {i : Nat} {k : Say} (h : l[i]? = some k) (f : List Str) : foldNames (l.take (i + 1)) f = k.namesIn (foldNames (l.take i) f) := by
  unfold foldNames
  rw [List.take_add_one, h, List.foldl_append]
  rfl
theorem names_kids {s : Say} (h : s.isUnk = false) (f : List Str) : s.namesIn f = foldNames s.kids f := by
  cases s with
  | unk x => cases h
  | yes => rfl
  | no => rfl
  | not a => rfl
  | bin k a b => rfl
def Say.heads (s : Say) : List Str := s.all.map Say.head
def Say.flatL : List Say → List Str := fun l => (l.map Say.heads).flatten
def Say.leavesL : List Say → List Str := fun l => (l.map Say.leaves).flatten
def Say.deepL : List Say → Nat := fun l => l.foldl (fun d k => max d (k.depth + 1)) 0
theorem heads_kids (s : Say) : s.heads = s.head :: Say.flatL s.kids := by
  cases s with
  | unk x => rfl
  | yes => rfl
  | no => rfl
  | not a => simp [Say.heads, Say.all, Say.flatL, Say.kids, Say.head]
  | bin k a b => simp [Say.heads, Say.all, Say.flatL, Say.kids, Say.head]
theorem leaves_kids {s : Say} (h : s.isUnk = false) : s.leaves = Say.leavesL s.kids := by
  cases s with
  | unk x => cases h
  | yes => rfl
  | no => rfl
  | not a => simp [Say.leaves, Say.leavesL, Say.kids]
  | bin k a b => simp [Say.leaves, Say.leavesL, Say.kids]
theorem depth_kids (s : Say) : s.depth = Say.deepL s.kids := by
  cases s with
  | unk x => rfl
  | yes => rfl
  | no => rfl
  | not a => show a.depth + 1 = max 0 (a.depth + 1); omega
  | bin k a b => show max a.depth b.depth + 1 = max (max 0 (a.depth + 1)) (b.depth + 1); omega
theorem all_len : ∀ s : Say, s.all.length = s.words
  | .unk x => rfl
  | .yes => rfl
  | .no => rfl
  | .not a => by show a.all.length + 1 = _; rw [all_len a]; rfl
  | .bin k a b => by show (a.all ++ b.all).length + 1 = _; rw [List.length_append, all_len a, all_len b]; rfl
theorem heads_len (s : Say) : s.heads.length = s.words := by
  unfold Say.heads
  rw [List.length_map, all_len]
theorem leaves_len : ∀ s : Say, s.leaves.length ≤ s.words
  | .unk x => Nat.le_refl _
  | .yes => Nat.zero_le _
  | .no => Nat.zero_le _
  | .not a => Nat.le_trans (leaves_len a) (Nat.le_succ _)
  | .bin k a b => by
    have h1 := leaves_len a
    have h2 := leaves_len b
    show (a.leaves ++ b.leaves).length ≤ a.words + b.words + 1
    rw [List.length_append]
    omega
theorem flat_len (l : List Say) : (Say.flatL l).length = wsum l := by
  induction l with
  | nil => rfl
  | cons x r ih =>
    show (x.heads ++ Say.flatL r).length = x.words + wsum r
    rw [List.length_append, heads_len, ih]
theorem leavesL_len (l : List Say) : (Say.leavesL l).length ≤ wsum l := by
  induction l with
  | nil => exact Nat.le_refl _
  | cons x r ih =>
    have h := leaves_len x
    show (x.leaves ++ Say.leavesL r).length ≤ x.words + wsum r
    rw [List.length_append]
    omega
theorem flat_more {l : List Say} {i : Nat} {k : Say} (h : l[i]? = some k) : Say.flatL (l.take (i + 1)) = Say.flatL (l.take i) ++ k.heads := by
  unfold Say.flatL
  rw [List.take_add_one, h, List.map_append, List.flatten_append]
  show _ ++ (k.heads ++ []) = _
  rw [List.append_nil]
theorem leaves_more {l : List Say} {i : Nat} {k : Say} (h : l[i]? = some k) : Say.leavesL (l.take (i + 1)) = Say.leavesL (l.take i) ++ k.leaves := by
  unfold Say.leavesL
  rw [List.take_add_one, h, List.map_append, List.flatten_append]
  show _ ++ (k.leaves ++ []) = _
  rw [List.append_nil]
theorem deep_more {l : List Say} {i : Nat} {k : Say} (h : l[i]? = some k) : Say.deepL (l.take (i + 1)) = max (Say.deepL (l.take i)) (k.depth + 1) := by
  unfold Say.deepL
  rw [List.take_add_one, h, List.foldl_append]
  rfl
def leafV : List V := [.str "unknown", .str "yes", .str "no"]
def Say.isLeaf : Say → Bool
  | .unk _ => true | .yes => true | .no => true | _ => false
theorem mk6_leaf : ∀ k : Mk6, inV (.str k.str) leafV = false := by
  intro k
  cases k <;> decide +kernel
theorem in_leaf (s : Say) : inV (.str s.head) leafV = s.isLeaf := by
  cases s with
  | unk x => exact (by decide +kernel : inV (.str "unknown") leafV = true)
  | yes => exact (by decide +kernel : inV (.str "yes") leafV = true)
  | no => exact (by decide +kernel : inV (.str "no") leafV = true)
  | not a => exact (by decide +kernel : inV (.str "not") leafV = false)
  | bin k a b => exact mk6_leaf k
/-- a test whose answer is a known truth value -/
theorem rd_bool {b : Bool} {A B : Prop} (h1 : b = true → A) (h2 : b = false → B) : if b = true then A else B := by
  cases b with
  | true => exact iteT (h1 rfl)
  | false => exact iteF (h2 rfl)
section
variable {K : PySem.W.Frag} {σ : L2.St} {H : Hp} {Q : VK} {D : Ends} {c : TT} {tb : TS} {a : Addr} {xs ys : List V}
theorem rd_while (W : Nat → L2.St → Hp → Prop) (m0 : Nat) (h0 : W m0 σ H) (hs : ∀ m σ H, W m σ H →
    c σ H fun b H1 => if b = true then ∃ N : L2.St → Hp → Prop, (∀ σ' H', N σ' H' → ∃ m', m' < m ∧ W m' σ' H') ∧ tb { D with nx := N, ct := N, bk := D.nx } σ H1 else D.nx σ H1) :
    tWhile c tb D σ H := ⟨W, ⟨m0, h0⟩, hs⟩
theorem rd_go {W : Nat → L2.St → Hp → Prop} {m : Nat} {P : (L2.St → Hp → Prop) → Prop} {B : Prop} (h : P fun σ' H' => ∃ m', m' < m ∧ W m' σ' H') :
    if true = true then ∃ N : L2.St → Hp → Prop, (∀ σ' H', N σ' H' → ∃ m', m' < m ∧ W m' σ' H') ∧ P N else B := iteT ⟨_, fun _ _ z => z, h⟩
theorem rd_truL {P : Bool → Prop} (h : SqL K H a xs) (q : P (!xs.isEmpty)) : ∃ k, TruV K (.ref a) H k ∧ P k := ⟨_, .inl ⟨xs, h, rfl⟩, q⟩
theorem rd_truT {P : Bool → Prop} (h : SqT K H a xs) (q : P (!xs.isEmpty)) : ∃ k, TruV K (.ref a) H k ∧ P k := ⟨_, .inr (.inl ⟨xs, h, rfl⟩), q⟩
theorem rd_pop {v : V} (h : H a = some (.lst (v :: xs).reverse)) (q : Q v (upd H a (.lst xs.reverse))) : rPop (.ref a) [] H Q := by
  have e : (v :: xs).reverse = xs.reverse ++ [v] := List.reverse_cons
  refine ⟨a, _, v, rfl, rfl, h, ?_, ?_⟩
  · rw [e, List.length_append, List.length_singleton, Nat.add_sub_cancel, List.getElem?_append_right (Nat.le_refl _), Nat.sub_self]
    rfl
  · rw [e, List.dropLast_concat]
    exact q
theorem rd_append {v : V} (h : H a = some (.lst xs)) (hz : xs.length < 1000000) (q : Q .non (upd H a (.lst (xs ++ [v])))) : rAppend (.ref a) [v] H Q :=
  ⟨a, xs, v, rfl, rfl, h, Nat.lt_trans hz (by decide), q⟩
theorem rd_extT {b : Addr} (h : H a = some (.lst xs)) (hb : H b = some (.tup ys)) (hz : xs.length + ys.length ≤ 1000000) (q : Q .non (upd H a (.lst (xs ++ ys)))) : rExtT K (.ref a) [.ref b] H Q :=
  ⟨a, b, xs, ys, rfl, rfl, h, hb, Nat.le_trans hz (by decide), q⟩
theorem rd_revT {te : TE} (h : te σ H fun x H1 => ∃ a xs, x = .ref a ∧ SqT K H1 a xs ∧ ∀ p, H1 p = none → Q (.ref p) (upd H1 p (.tup xs.reverse))) : tRevT K te σ H Q := h
theorem rd_revAt {P : List V → Prop} (h : SqT K H a xs) (q : P xs) : ∃ b ys, V.ref a = .ref b ∧ SqT K H b ys ∧ P ys := ⟨a, xs, rfl, h, q⟩
theorem rd_bm {T : String} {r : V → List V → Hp → VK → Prop} {to : TE} {t : TA} (h : to σ H fun x H1 => tyV K T x H1 ∧ t σ H1 fun xs H2 => r x xs H2 Q) : tBM K T r to t σ H Q := h
theorem rd_bm0 {T : String} {r : V → List V → Hp → VK → Prop} {to : TE} (h : to σ H fun x H1 => tyV K T x H1 ∧ r x [] H1 Q) : tBM0 K T r to σ H Q := h
end
/-- all words of several, one behind the other -/
def allL (l : List Say) : List Say := (l.map Say.all).flatten
theorem all_kids (s : Say) : s.all = s :: allL s.kids := by
  cases s with
  | unk x => rfl
  | yes => rfl
  | no => rfl
  | not a => simp [Say.all, allL, Say.kids]
  | bin k a b => simp [Say.all, allL, Say.kids]
theorem allL_append (l r : List Say) : allL (l ++ r) = allL l ++ allL r := by
  unfold allL
  rw [List.map_append, List.flatten_append]
theorem wsum_append (l r : List Say) : wsum (l ++ r) = wsum l + wsum r := by
  unfold wsum
  rw [List.map_append, List.sum_append_nat]
theorem allL_len (l : List Say) : (allL l).length = wsum l := by
  induction l with
  | nil => rfl
  | cons x r ih =>
    show (x.all ++ allL r).length = x.words + wsum r
    rw [List.length_append, all_len, ih]
theorem words_pos (s : Say) : 0 < s.words := by
  rw [words_kids]
  exact Nat.succ_pos _
theorem len_wsum (l : List Say) : l.length ≤ wsum l := by
  induction l with
  | nil => exact Nat.le_refl _
  | cons x r ih =>
    have := words_pos x
    show r.length + 1 ≤ x.words + wsum r
    omega
theorem count_range {α : Type} (l : List α) (d : α) (f : α → Bool) : ((List.range l.length).filter fun i => f (l.getD i d)).length = (l.filter f).length := by
  induction l with
  | nil => rfl
  | cons x r ih =>
    have e : (fun i => f ((x :: r).getD i d)) ∘ Nat.succ = fun i => f (r.getD i d) := rfl
    rw [List.length_cons, List.range_succ_eq_map, List.filter_cons, List.filter_map, e]
    have e0 : (x :: r).getD 0 d = x := rfl
    rw [e0, List.filter_cons]
    by_cases h : f x = true
    · rw [if_pos h, if_pos h, List.length_cons, List.length_cons, List.length_map, ih]
    · rw [if_neg h, if_neg h, List.length_map, ih]
theorem marks_count : ∀ s : Say, (s.all.filter Say.isBin).length = s.marks
  | .unk x => rfl
  | .yes => rfl
  | .no => rfl
  | .not a => by
    show ((Say.not a :: a.all).filter Say.isBin).length = a.marks
    rw [List.filter_cons_of_neg (show ¬ Say.isBin (.not a) = true from Bool.false_ne_true), marks_count a]
  | .bin k a b => by
    show ((Say.bin k a b :: (a.all ++ b.all)).filter Say.isBin).length = a.marks + b.marks + 1
    rw [List.filter_cons_of_pos (show Say.isBin (.bin k a b) = true from rfl), List.length_cons, List.filter_append, List.length_append, marks_count a, marks_count b]
/-- a text of the six marks -/
theorem mk6_of {v : V} (h : v ∈ ([.str "plus", .str "times", .str "leads", .str "and", .str "or", .str "same", .str "plus", .str "times", .str "leads"] : List V)) : ∃ k : Mk6, v = .str k.str := by
  simp only [List.mem_cons, List.not_mem_nil, or_false] at h
  rcases h with rfl | rfl | rfl | rfl | rfl | rfl | rfl | rfl | rfl
  · exact ⟨.plus, rfl⟩
  · exact ⟨.times, rfl⟩
  · exact ⟨.leads, rfl⟩
  · exact ⟨.and, rfl⟩
  · exact ⟨.or, rfl⟩
  · exact ⟨.same, rfl⟩
  · exact ⟨.plus, rfl⟩
  · exact ⟨.times, rfl⟩
  · exact ⟨.leads, rfl⟩
theorem rd_ints {i j : Int} {A B : Prop} (h1 : i = j → A) (h2 : i ≠ j → B) : if decide (V.int i = V.int j) = true then A else B :=
  rd_two (fun c => h1 (V.int.inj c)) fun c => h2 fun e => c (congrArg V.int e)
end
end Gd

/-! # data that shows well; sayings as data -/
namespace Gd
open PySem PySem.Spec PyProof.Rows L2
mutual
def smallD : PyData → Bool
  | .none => true
  | .bool _ => true
  | .int i => decide (i.natAbs < 10 ^ 11)
  | .str x => PyData.strOk x
  | .list xs => smallDs xs
  | .tuple xs => smallDs xs
  | .dict _ => false
def smallDs : List PyData → Bool
  | [] => true
  | x :: xs => smallD x && smallDs xs
end
mutual
theorem small_lay : ∀ d : PyData, smallD d = true → d.canLay0 = true
  | .none, _ => rfl
  | .bool _, _ => rfl
  | .int _, _ => rfl
  | .str x, h => by rw [smallD] at h; rw [PyData.canLay0]; exact h
  | .list xs, h => by rw [smallD] at h; rw [PyData.canLay0]; exact smalls_lay xs h
  | .tuple xs, h => by rw [smallD] at h; rw [PyData.canLay0]; exact smalls_lay xs h
  | .dict _, h => by rw [smallD] at h; cases h
theorem smalls_lay : ∀ xs : List PyData, smallDs xs = true → PyData.canLayAll0 xs = true
  | [], _ => rfl
  | x :: xs, h => by
    rw [smallDs, Bool.and_eq_true] at h
    rw [PyData.canLayAll0, small_lay x h.1, smalls_lay xs h.2]
    rfl
end
theorem PyData_int_len (i : Int) (h : i.natAbs < 10 ^ 11) : (PyData.shown (.int i)).length ≤ 12 := by
  rw [PyData.shown]
  have := int_text_length_le10 (k := 11) (by decide) h
  rw [PySem.ofString_length]
  exact this
mutual
theorem small_ints : ∀ d : PyData, smallD d = true → d.intsShort 13 = true
  | .none, _ => rfl
  | .bool _, _ => rfl
  | .int i, h => by
    rw [smallD, decide_eq_true_eq] at h
    rw [PyData.intsShort, decide_eq_true_eq]
    exact Nat.le_trans (PyData_int_len i h) (by decide)
  | .str x, h => rfl
  | .list xs, h => by rw [smallD] at h; rw [PyData.intsShort]; exact smalls_ints xs h
  | .tuple xs, h => by rw [smallD] at h; rw [PyData.intsShort]; exact smalls_ints xs h
  | .dict _, h => rfl
theorem smalls_ints : ∀ xs : List PyData, smallDs xs = true → PyData.intsShortAll 13 xs = true
  | [], _ => rfl
  | x :: xs, h => by
    rw [smallDs, Bool.and_eq_true] at h
    rw [PyData.intsShortAll, small_ints x h.1, smalls_ints xs h.2]
    rfl
end
mutual
theorem small_show : ∀ d : PyData, smallD d = true → d.showable = true
  | .none, _ => rfl
  | .bool _, _ => rfl
  | .int i, h => by
    rw [smallD, decide_eq_true_eq] at h
    rw [PyData.showable, decide_eq_true_eq]
    by_cases z : i.natAbs = 0
    · rw [z]; decide
    · refine (Nat.log2_lt z).mpr (Nat.lt_of_lt_of_le h ?_)
      exact Nat.le_trans (show 10 ^ 11 ≤ 2 ^ 64 by decide) (Nat.pow_le_pow_right (by decide) (by decide))
  | .str x, h => rfl
  | .list xs, h => by rw [smallD] at h; rw [PyData.showable]; exact smalls_show xs h
  | .tuple xs, h => by rw [smallD] at h; rw [PyData.showable]; exact smalls_show xs h
  | .dict _, h => by rw [smallD] at h; cases h
theorem smalls_show : ∀ xs : List PyData, smallDs xs = true → PyData.showableAll xs = true
  | [], _ => rfl
  | x :: xs, h => by
    rw [smallDs, Bool.and_eq_true] at h
    rw [PyData.showableAll, small_show x h.1, smalls_show xs h.2]
    rfl
end
section
variable {K : PySem.W.Frag} {H : Hp} {Q : VK} {v x y : V} {d d' : PyData}
theorem rd_repr (hd : Dp K H v d) (h : smallD d = true) (hb : d.bulk ≤ 1000000) (dp : d.depth ≤ 150) (q : Q (.str d.shown) H) : rRepr K [v] H Q :=
  ⟨v, d, rfl, hd, small_show d h, PyData.hasDict_of_canLay d (small_lay d h), dp,
    PyData.shown_fits_bulk (B := 13) (by decide) (by decide) (PyData.leavesShort_of_canLay0 13 d (small_lay d h) (small_ints d h)) (Nat.le_trans hb (by decide)), q⟩
theorem small_shaped (h : smallD d = true) (dp : d.depth ≤ 64) : SeqAt.shaped d = true := by
  show (d.canLay0 && decide (d.depth ≤ 64)) = true
  rw [small_lay d h, decide_eq_true dp]
  rfl
theorem rd_neD (hd : Dp K H x d) (he : Dp K H y d') (h1 : smallD d = true) (h2 : smallD d' = true) (p1 : d.depth ≤ 64) (p2 : d'.depth ≤ 64) (q : Q (.bl (!d.eqv d')) H) : rNeD K x y H Q :=
  ⟨d, d', hd, he, small_shaped h1 p1, small_shaped h2 p2, q⟩
theorem rd_eqD (hd : Dp K H x d) (he : Dp K H y d') (h1 : smallD d = true) (h2 : smallD d' = true) (p1 : d.depth ≤ 64) (p2 : d'.depth ≤ 64) (q : Q (.bl (d.eqv d')) H) : rEqD K x y H Q :=
  ⟨d, d', hd, he, small_shaped h1 p1, small_shaped h2 p2, q⟩
end
section
variable {K : PySem.W.Frag} {H : Hp} {v x y : V} {d d' : PyData}
/-! ### lists of numbers, of texts, of sayings -/
theorem dp_strs (K : PySem.W.Frag) (H : Hp) : ∀ fs : List Str, DpAll K H (fs.map V.str) (fs.map PyData.str)
  | [] => .nil
  | x :: r => .cons (.str x) (dp_strs K H r)
theorem dp_ints (K : PySem.W.Frag) (H : Hp) : ∀ ns : List Int, DpAll K H (ns.map V.int) (ns.map PyData.int)
  | [] => .nil
  | x :: r => .cons (.int x) (dp_ints K H r)
theorem small_strs : ∀ fs : List Str, (∀ x ∈ fs, PyData.strOk x = true) → smallDs (fs.map PyData.str) = true
  | [], _ => rfl
  | x :: r, h => by
    rw [List.map_cons, smallDs, smallD, h x (List.mem_cons_self ..), small_strs r fun y m => h y (List.mem_cons_of_mem _ m)]
    rfl
theorem small_intL : ∀ ns : List Int, (∀ x ∈ ns, x.natAbs < 10 ^ 11) → smallDs (ns.map PyData.int) = true
  | [], _ => rfl
  | x :: r, h => by
    rw [List.map_cons, smallDs, smallD, decide_eq_true (h x (List.mem_cons_self ..)), small_intL r fun y m => h y (List.mem_cons_of_mem _ m)]
    rfl
theorem depth_strs : ∀ fs : List Str, PyData.depthAll (fs.map PyData.str) = 0
  | [] => rfl
  | x :: r => by rw [List.map_cons, PyData.depthAll, PyData.depth, depth_strs r]; rfl
theorem depth_intL : ∀ fs : List Int, PyData.depthAll (fs.map PyData.int) = 0
  | [] => rfl
  | x :: r => by rw [List.map_cons, PyData.depthAll, PyData.depth, depth_intL r]; rfl
theorem bulk_strs : ∀ fs : List Str, (∀ x ∈ fs, x.cps.size ≤ 20) → PyData.bulkAll (fs.map PyData.str) ≤ 21 * fs.length
  | [], _ => Nat.zero_le _
  | x :: r, h => by
    rw [List.map_cons, PyData.bulkAll, PyData.bulk, List.length_cons]
    have h1 := h x (List.mem_cons_self ..)
    have h2 := bulk_strs r fun y m => h y (List.mem_cons_of_mem _ m)
    omega
theorem bulk_intL : ∀ fs : List Int, PyData.bulkAll (fs.map PyData.int) = fs.length
  | [] => rfl
  | x :: r => by
    rw [List.map_cons, PyData.bulkAll, PyData.bulk, List.length_cons, bulk_intL r]
    omega
end
def Say.data : Say → PyData
  | .unk x => .tuple [.str "unknown", .str x]
  | .yes => .tuple [.str "yes"]
  | .no => .tuple [.str "no"]
  | .not a => .tuple [.str "not", a.data]
  | .bin k a b => .tuple [.str k.str, a.data, b.data]
/-- a name whose text is short -/
def okName (x : Str) : Prop := PyData.strOk x = true ∧ x.cps.size ≤ 20
theorem mk6_strOk : ∀ k : Mk6, PyData.strOk k.str = true := by
  intro k
  cases k <;> decide +kernel
theorem mk6_size : ∀ k : Mk6, k.str.cps.size ≤ 5 := by
  intro k
  cases k <;> decide +kernel
theorem SayAt.dp (K : PySem.W.Frag) {H : Hp} : ∀ {s : Say} {v : V}, SayAt H s v → Dp K H v s.data
  | .unk x, v, ⟨p, e, h⟩ => e ▸ .tup (sqT h) (.cons (.str _) (.cons (.str _) .nil))
  | .yes, v, ⟨p, e, h⟩ => e ▸ .tup (sqT h) (.cons (.str _) .nil)
  | .no, v, ⟨p, e, h⟩ => e ▸ .tup (sqT h) (.cons (.str _) .nil)
  | .not a, v, ⟨p, u, e, h, ha⟩ => e ▸ .tup (sqT h) (.cons (.str _) (.cons (SayAt.dp K ha) .nil))
  | .bin k a b, v, ⟨p, u, w, e, h, ha, hb⟩ => e ▸ .tup (sqT h) (.cons (.str _) (.cons (SayAt.dp K ha) (.cons (SayAt.dp K hb) .nil)))
theorem say_small : ∀ s : Say, (∀ x ∈ s.leaves, okName x) → smallD s.data = true
  | .unk x, h => by
    rw [Say.data, smallD, smallDs, smallDs, smallDs, smallD, smallD, (h x (List.mem_singleton.mpr rfl)).1]
    decide +kernel
  | .yes, h => by decide +kernel
  | .no, h => by decide +kernel
  | .not a, h => by
    rw [Say.data, smallD, smallDs, smallDs, smallDs, smallD, say_small a h]
    decide +kernel
  | .bin k a b, h => by
    rw [Say.data, smallD, smallDs, smallDs, smallDs, smallDs, smallD, mk6_strOk, say_small a fun x m => h x (List.mem_append_left _ m), say_small b fun x m => h x (List.mem_append_right _ m)]
    rfl
theorem say_depth : ∀ s : Say, s.data.depth = s.depth + 1
  | .unk x => rfl
  | .yes => rfl
  | .no => rfl
  | .not a => by
    rw [Say.data, PyData.depth, PyData.depthAll, PyData.depthAll, PyData.depthAll, PyData.depth, say_depth a]
    show max 0 (max (a.depth + 1) 0) + 1 = a.depth + 1 + 1
    omega
  | .bin k a b => by
    rw [Say.data, PyData.depth, PyData.depthAll, PyData.depthAll, PyData.depthAll, PyData.depthAll, PyData.depth, say_depth a, say_depth b]
    show max 0 (max (a.depth + 1) (max (b.depth + 1) 0)) + 1 = max a.depth b.depth + 1 + 1
    omega
theorem say_bulk : ∀ s : Say, (∀ x ∈ s.leaves, okName x) → s.data.bulk ≤ 40 * s.words
  | .unk x, h => by
    have h1 := (h x (List.mem_singleton.mpr rfl)).2
    show ((7 + 1) + ((x.cps.size + 1) + 0)) ≤ 40 * 1
    omega
  | .yes, h => by decide +kernel
  | .no, h => by decide +kernel
  | .not a, h => by
    have h1 := say_bulk a h
    show ((3 + 1) + ((a.data.bulk + 1) + 0)) ≤ 40 * (a.words + 1)
    omega
  | .bin k a b, h => by
    have h1 := say_bulk a fun x m => h x (List.mem_append_left _ m)
    have h2 := say_bulk b fun x m => h x (List.mem_append_right _ m)
    have h3 := mk6_size k
    show ((k.str.cps.size + 1) + ((a.data.bulk + 1) + ((b.data.bulk + 1) + 0))) ≤ 40 * (a.words + b.words + 1)
    omega
theorem SaysAt.dp (K : PySem.W.Frag) {H : Hp} : ∀ {ss : List Say} {vs : List V}, SaysAt H ss vs → DpAll K H vs (ss.map Say.data)
  | _, _, .nil => .nil
  | _, _, .cons a b => .cons (a.dp K) (b.dp K)
theorem says_small : ∀ ss : List Say, (∀ s ∈ ss, ∀ x ∈ s.leaves, okName x) → smallDs (ss.map Say.data) = true
  | [], _ => rfl
  | s :: r, h => by
    rw [List.map_cons, smallDs, say_small s (h s (List.mem_cons_self ..)), says_small r fun y m => h y (List.mem_cons_of_mem _ m)]
    rfl
theorem says_depth (n : Nat) : ∀ ss : List Say, (∀ s ∈ ss, s.depth ≤ n) → PyData.depthAll (ss.map Say.data) ≤ n + 1
  | [], _ => Nat.zero_le _
  | s :: r, h => by
    rw [List.map_cons, PyData.depthAll, say_depth]
    have h1 := h s (List.mem_cons_self ..)
    have h2 := says_depth n r fun y m => h y (List.mem_cons_of_mem _ m)
    omega
theorem says_bulk : ∀ ss : List Say, (∀ s ∈ ss, ∀ x ∈ s.leaves, okName x) → PyData.bulkAll (ss.map Say.data) ≤ 41 * wsum ss
  | [], _ => Nat.zero_le _
  | s :: r, h => by
    rw [List.map_cons, PyData.bulkAll]
    have h1 := say_bulk s (h s (List.mem_cons_self ..))
    have h2 := says_bulk r fun y m => h y (List.mem_cons_of_mem _ m)
    have h3 := words_pos s
    show _ ≤ 41 * (s.words + wsum r)
    omega
open Evl in
/-- as lc_src, where the test lays new objects -/
theorem lc_srcA {σ : L2.St} {H1 : Hp} {te : TE} {tt : TT} {vs : List Nat} {j n : Nat} {J : L2.It} {G : Hp → Prop} {Y : Nat → Hp → V → Hp → Prop} {Dl : Addr} {Qd : Hp → Prop} (w : L2.Walk J n G Y) (src : Nat → V)
    (hy : ∀ i H x H', i < n → Y i H x H' → H' = H ∧ x = src i) (f : Nat → Bool) (v : Nat → V) (hn : n ≤ 1000000) (hD : H1 Dl = none)
    (hG : ∀ H', Same H1 H' → G H') (hw : ∀ x, wipe ((wipe σ vs).set j (some x)) vs = wipe σ vs)
    (ht : ∀ i H' (R : Bool → Hp → Prop), i < n → Same H1 H' → (∀ H'', Same H' H'' → R (f i) H'') → tt ((wipe σ vs).set j (some (src i))) H' R)
    (he : ∀ i H' (R : VK), i < n → f i = true → Same H1 H' → (∀ H'', Same H' H'' → R (v i) H'') → te ((wipe σ vs).set j (some (src i))) H' R)
    (hd : ∀ H', Same H1 H' → H' Dl = some (.lst (given n f v)) → Qd H') :
    ∃ W : Nat → Nat → Hp → Prop, (∃ m, W 0 m (upd H1 Dl (.lst []))) ∧ ∀ i m H, W i m H →
      (J.stop i H ∧ Qd H) ∨ (J.go i H ∧ ∃ Nx : Hp → Prop, (∀ H', Nx H' → ∃ m', m' < m ∧ W (i + 1) m' H') ∧
        ∀ x H', J.yld i H x H' → gName j x (wipe σ vs) H' fun σ2 H2 => wipe σ2 vs = wipe σ vs ∧ tt σ2 H2 fun b H3 =>
          if b = true then te σ2 H3 fun y H4 => ∃ acc, H4 Dl = some (.lst acc) ∧ acc.length < sizeLine ∧ Nx (upd H4 Dl (.lst (acc ++ [y]))) else Nx H3) := by
  refine lc_it w (fun i H' => Same H1 H' ∧ H' Dl = some (.lst (given i f v))) ⟨Same.new hD _, upd_same⟩ (fun i H' _ p => hG H' p.1) ?_ fun H' p => hd H' p.1 p.2
  intro i x H H' hi p y
  obtain ⟨rfl, rfl⟩ := hy i H x H' hi y
  refine ⟨hw _, ht i H' _ hi p.1 fun H0 s0 => ?_⟩
  have p' : Same H1 H0 ∧ H0 Dl = some (.lst (given i f v)) := ⟨p.1.trans s0, s0 _ _ p.2⟩
  cases hf : f i with
  | false =>
    refine iteF ⟨p'.1, ?_⟩
    rw [given_no hf]
    exact p'.2
  | true =>
    refine iteT (he i H0 _ hi hf p'.1 fun H'' s => ⟨given i f v, s _ _ p'.2, ?_, ?_, ?_⟩)
    · have := given_len i f v
      rw [sizeLine_eq]
      omega
    · exact Same.put (p'.1.trans s) hD _
    · rw [given_yes hf]
      exact upd_same
def atName (x : Str) : Say → Bool
  | .unk y => decide (y = x) | _ => false
theorem filter_leaves (x : Str) : ∀ s : Say, (s.leaves.filter fun y => decide (y = x)).length = (s.all.filter (atName x)).length
  | .unk y => by
    show (([y] : List Str).filter fun y => decide (y = x)).length = (([.unk y] : List Say).filter (atName x)).length
    by_cases c : y = x <;> simp [List.filter, c, atName]
  | .yes => rfl
  | .no => rfl
  | .not a => filter_leaves x a
  | .bin k a b => by
    show ((a.leaves ++ b.leaves).filter _).length = ((Say.bin k a b :: (a.all ++ b.all)).filter _).length
    rw [List.filter_cons_of_neg (show ¬ atName x (.bin k a b) = true from Bool.false_ne_true), List.filter_append, List.filter_append, List.length_append, List.length_append, filter_leaves x a, filter_leaves x b]
theorem marks_le : ∀ s : Say, s.marks ≤ s.words
  | .unk x => Nat.zero_le _
  | .yes => Nat.zero_le _
  | .no => Nat.zero_le _
  | .not a => Nat.le_trans (marks_le a) (Nat.le_succ _)
  | .bin k a b => by
    have h1 := marks_le a
    have h2 := marks_le b
    show a.marks + b.marks + 1 ≤ a.words + b.words + 1
    omega
/-- repr of a new tuple of whole numbers -/
theorem rd_reprI {K : PySem.W.Frag} {H : Hp} {Q : VK} {p : Addr} (ns : List Int) (h : H p = some (.tup (ns.map V.int))) (hs : ∀ x ∈ ns, x.natAbs < 10 ^ 11) (hl : ns.length ≤ 1000000)
    (q : Q (.str (PyData.tuple (ns.map PyData.int)).shown) H) : rRepr K [.ref p] H Q := by
  refine rd_repr (.tup (sqT h) (dp_ints K H ns)) ?_ ?_ ?_ q
  · rw [smallD]; exact small_intL ns hs
  · rw [PyData.bulk, bulk_intL]; exact hl
  · rw [PyData.depth, depth_intL]; decide
theorem rd_repr1 {K : PySem.W.Frag} {H : Hp} {Q : VK} {i : Int} (hs : i.natAbs < 10 ^ 11) (q : Q (.str (PyData.int i).shown) H) : rRepr K [.int i] H Q := by
  refine rd_repr (.int i) ?_ ?_ ?_ q
  · rw [smallD]; exact decide_eq_true hs
  · exact Nat.zero_le _
  · exact Nat.zero_le _
theorem rd_reprS {K : PySem.W.Frag} {H : Hp} {Q : VK} {p : Addr} (fs : List Str) (h : H p = some (.tup (fs.map V.str))) (hs : ∀ x ∈ fs, okName x) (hl : fs.length ≤ 10000)
    (q : Q (.str (PyData.tuple (fs.map PyData.str)).shown) H) : rRepr K [.ref p] H Q := by
  refine rd_repr (.tup (sqT h) (dp_strs K H fs)) ?_ ?_ ?_ q
  · rw [smallD]; exact small_strs fs fun x m => (hs x m).1
  · rw [PyData.bulk]
    have := bulk_strs fs fun x m => (hs x m).2
    omega
  · rw [PyData.depth, depth_strs]; decide
theorem rd_same {K : PySem.W.Frag} {x : V} {A B : Prop} (q : A) : if decide (x = x) = true then A else B := rd_true rfl q
/-- two texts that are one: no difference -/
theorem rd_neq {x : V} {A B : Prop} (q : B) : if (!decide (x = x)) = true then A else B := by
  rw [decide_eq_true rfl]
  exact iteF q
end Gd

/-! # the program's exceptions -/
namespace Gd
open PySem PySem.Spec PyProof.Rows L2
section
variable {X : Cx} {o e : Expr} {es : List Expr} {to te : TE} {ta : TA} {f : Str} {p p' p1 p2 pos : Pos}
/-- D.__init__(self, ..), where D has none of its own and stands over ValueError -/
theorem pe_binit {x : Str} {D : Addr} {pl : Sem Bool} (hg : Gl X x) (hm : X.mg x = some (.ref D))
    (hS : PySem.W.specialIn X.K (.ref D) "__getattribute__" = some (some (.builtin "type.__getattribute__"))) (hR : PySem.W.readsIn X.K D (.type "type") = true)
    (vV : PySem.W.findCls X.K (.ref D) (.type "type") "__init__" = some (.val (.builtin "ValueError.__init__"))) (ha : PA X (e :: es) ta)
    (hdb : (x == ("__debug__" : Str)) = false := by decide)
    (hc : eval (.Call (.Attribute (.Name x p1) "__init__" p2) (e :: es) [] pos) X.env = (do
      let ov ← eval (.Name x p1) X.env
      standAt p2.atName
      let (f, first) ← holding [ov] (getMethod ov "__init__" pl)
      callWith pos f first (backTo pos (starEach (e :: es) X.env)) (backToKw pos (keywordEach [] X.env))) := by rfl)
    (he : starEach (e :: es) X.env = (false, eval e X.env) :: starEach es X.env := by rfl) (hpl : (backTo pos (starEach es X.env)).any (·.1) = false := by rfl) :
    PE X (.Call (.Attribute (.Name x p1) "__init__" p2) (e :: es) [] pos) (tVeI X.K ta) := by
  refine ⟨fun pins s σ H Q I h => ?_⟩
  refine PySem.W.methodCall_KW (ld_glob I hg hm ?_ hdb) hc
  refine PySem.W.method_cls I.kIn hS (PySem.W.cls_value I.kIn hR vV (by decide +kernel) ?_)
  show wpAny _ _ (callWith pos (Value.builtin "ValueError.__init__") [] (backTo pos (starEach (e :: es) X.env)) []) _ _ _
  refine PyProof.Rows.callWith_method1 (thn (ha.run pos pins _ σ H _ (I.tok _) h) fun us s1 ⟨vs, H1, I1, r1, a, C, ws, ev, hl, T, ea, q⟩ => ?_) he hpl
  subst ev
  cases r1 with
  | @cons _ u0 _ ur ra rw' =>
    obtain rfl : u0 = Value.ref a := ra
    have hlen : ur.length ≤ sizeLine := by
      rw [← Paired.length rw', sizeLine_eq]
      omega
    exact oinit_ok T I1 ea hlen fun s' J => ⟨.non, H1, J, rfl, q⟩
end
/-- an own __init__: the base's, then one field -/
def spInitX (C : Addr) (f : Str) : Sp := fun vs H Q _ => ∃ (a : Addr) (v : V), vs = [.ref a, v] ∧ H a = some (exo a C none) ∧
  ∀ dx, H dx = none → dx ≠ a → Q .non (upd (upd H dx (exd dx [(f, v)])) a (exo a C (some dx)))
section
variable {K : PySem.W.Frag} {σ : L2.St} {H : Hp} {Q : VK} {D : Ends} {ta : TA} {to te : TE} {f : Str}
theorem rd_vei (h : ta σ H fun vs H1 => ∃ (a C : Addr) (ws : List V), vs = .ref a :: ws ∧ ws.length ≤ 1000 ∧ OexC K C ∧ H1 a = some (exo a C none) ∧ Q .non H1) : tVeI K ta σ H Q := h
theorem rd_ost (h : te σ H fun y H1 => to σ H1 fun x H2 => ∃ a C : Addr, x = .ref a ∧ OexC K C ∧ PySem.W.findIn K (.ref C) f = some none ∧
  ((H2 a = some (exo a C none) ∧ ∀ dx, H2 dx = none → dx ≠ a → D.nx σ (upd (upd H2 dx (exd dx [(f, y)])) a (exo a C (some dx)))) ∨
    ∃ (dx : Addr) (fs : List (Str × V)), H2 a = some (exo a C (some dx)) ∧ H2 dx = some (exd dx fs) ∧ fs.length ≤ 900 ∧ D.nx σ (upd H2 dx (exd dx ((f, y) :: fs))))) : tOst K f to te D σ H := h
/-- raise C(v): what is known of the heap behind it -/
theorem rd_raise {C : Addr} {v : V} {X : XK} (h : ∀ d H', Same H H' → H d = none → H' d = some (.xd [(f, v)]) → X (.ref C) (some d) H') :
    ([v] : List V).length ≤ 1000 ∧ ∀ a, H a = none → spInitX C f (.ref a :: ([v] ++ [])) (upd H a (exo a C none))
      (fun u H2 => u = .non ∧ ∃ (d : Addr) (fs : List (Str × V)), H2 a = some (exo a C (some d)) ∧ H2 d = some (exd d fs) ∧ H d = none ∧ X (.ref C) (some d) (upd (del H2 a) d (.xd fs))) (fun _ _ _ => False) := by
  refine ⟨by show 1 ≤ 1000; decide, fun a na => ⟨a, v, rfl, upd_same, fun dx nd ne => ⟨rfl, dx, [(f, v)], upd_same, ?_, ?_, ?_⟩⟩⟩
  · rw [upd_ne ne, upd_same]
  · rw [upd_ne ne] at nd
    exact nd
  · rw [upd_ne ne] at nd
    refine h dx _ (fun b o e => ?_) nd upd_same
    have hb : b ≠ dx := ne_of_none e nd
    have ha : b ≠ a := ne_of_none e na
    rw [upd_ne hb, del_ne ha, upd_ne ha, upd_ne hb, upd_ne ha]
    exact e
theorem rd_mko {C : Addr} {sp : Sp} {dvs : List V} {X : XK} (h : ta σ H fun vs H1 => vs.length ≤ 1000 ∧ ∀ a, H1 a = none → sp (.ref a :: (vs ++ dvs)) (upd H1 a (exo a C none))
  (fun v H2 => v = .non ∧ ∃ (d : Addr) (fs : List (Str × V)), H2 a = some (exo a C (some d)) ∧ H2 d = some (exd d fs) ∧ H1 d = none ∧ X (.ref C) (some d) (upd (del H2 a) d (.xd fs))) (fun _ _ _ => False)) : tMkO C sp dvs ta σ H X := h
theorem rd_callS {sp : Sp} {E : L2.St → XK} (h : ta σ H fun vs H1 => sp vs H1 Q (E σ)) : tCallS sp E ta σ H Q := h
end
end Gd

/-! # a tuple so many times, none and once among them -/
namespace Gd
open PySem PySem.Spec PyProof.Rows L2
theorem tuple_mul0 (l : Addr) (items : Array Value) (n : Nat) (dd : Option Addr) (sl : Array (Option Value)) (x : Int) (u : Tok) (c0 : (decide (x < -(2 ^ 63)) || decide (x ≥ 2 ^ 63)) = false) (c1 : (items.isEmpty || x == 1) = false) (c2 : (decide (x ≤ 0) || items.isEmpty) = true) :
    Meets (Builtin.«tuple.__mul__» ⟨[.ref l, .int x u], []⟩) (fun _ R s => s.heap.get? l = some { cls := .type "tuple", dict := dd, data := .seq items n, slots := sl } ∧
      R (.ok (.ret (Value.ref s.heap.objs.size))) { s with heap := s.heap.push { cls := Value.type "tuple", data := Data.seq #[] }, toks := s.toks }) :=
  .of_wp fun prog w A R s h => by
    obtain ⟨hp, g, d, tk, os⟩ := s
    obtain ⟨hl, h⟩ := h
    have f1 := AutoSeq1.idx_int
    wp_walk using wpAny_loadPart' hl
    repeat (first
      | (refine wpAny_ite_false (decide_eq_false (by rw [c0]; exact Bool.false_ne_true)) ?_; wp_walk using wpAny_loadPart' hl)
      | (refine wpAny_ite_false (decide_eq_false (by rw [c1]; exact Bool.false_ne_true)) ?_; wp_walk using wpAny_loadPart' hl)
      | (refine wpAny_ite_true (decide_eq_true (by rw [c2])) ?_; wp_walk using wpAny_loadPart' hl))
    exact ⟨_, rfl, h⟩
theorem tuple_mul1 (l : Addr) (items : Array Value) (n : Nat) (dd : Option Addr) (sl : Array (Option Value)) (u : Tok) :
    Meets (Builtin.«tuple.__mul__» ⟨[.ref l, .int 1 u], []⟩) (fun _ R s => s.heap.get? l = some { cls := .type "tuple", dict := dd, data := .seq items n, slots := sl } ∧
      R (.ok (.ret (Value.ref l))) s) :=
  .of_wp fun prog w A R s h => by
    obtain ⟨hp, g, d, tk, os⟩ := s
    obtain ⟨hl, h⟩ := h
    have f1 := AutoSeq1.idx_int
    have c1 : (items.isEmpty || (1 : Int) == 1) = true := by rw [show ((1 : Int) == 1) = true from rfl, Bool.or_true]
    wp_walk using wpAny_loadPart' hl
    repeat (first
      | (refine wpAny_ite_false (decide_eq_false (by decide)) ?_; wp_walk using wpAny_loadPart' hl)
      | (refine wpAny_ite_true (decide_eq_true (by rw [c1])) ?_; wp_walk using wpAny_loadPart' hl))
    exact ⟨_, rfl, h⟩
def rRepA (K : PySem.W.Frag) : R2 := fun x y H Q => ∃ l k xs, x = .ref l ∧ y = .int k ∧ SqT K H l xs ∧ xs ≠ [] ∧ 0 ≤ k ∧ k ≤ 1000 ∧ xs.length ≤ 1000 ∧ (k = 1 → Q (.ref l) H) ∧ (k ≠ 1 → ∀ p, H p = none → Q (.ref p) (upd H p (.tup (List.replicate k.toNat xs).flatten)))
theorem op_repA {X : Cx} : OpR X (binaryOp .Mult) (rRepA X.K) := by
  intro pins s σ H x y v u Q I rx ry h
  obtain ⟨l, k, xs, rfl, rfl, hT, hne, h0, h2, hz, q1, q⟩ := h
  by_cases h2' : 2 ≤ k
  · exact op_repT pins s σ H _ _ v u Q I rx ry ⟨l, k, xs, rfl, rfl, hT, hne, h2', h2, hz, q (by omega)⟩
  cases rx
  obtain ⟨t, rfl⟩ := ry
  obtain ⟨its, r, ⟨⟨cls, dd, data, sl⟩, ho, hc, n, hd⟩, hs⟩ := I.tuple hT
  simp only at hc hd
  subst hc hd
  have hle : its.length = xs.length := r.length.symm
  have hn : its ≠ [] := fun e => hne (by
    rw [e] at hle
    exact List.eq_nil_of_length_eq_zero hle.symm)
  have hi : its.toArray.isEmpty = false := by
    cases its with
    | nil => exact absurd rfl hn
    | cons a b => rfl
  have c0 : (decide (k < -(2 ^ 63)) || decide (k ≥ 2 ^ 63)) = false := by
    rw [decide_eq_false (by omega), decide_eq_false (by omega)] <;> rfl
  by_cases hk : k = 1
  · subst hk
    refine wpAny_binaryOp_repeat_ref (T := "tuple") (U := "int") (by decide) ⟨_, ho, rfl⟩ (fun s' => typeIs_int s' 1 t) noFill_tuple_mul F.fills_int_mul F.slot_int_rmul repeat_tuple F.slot_int_index.lookup
      (call_meets F.slot_int_rmul (typeIs_int s 1 t) F.entry_int_rmul (F.args_int_rmul_2 _ _) (int_rmul_tuple 1 t l its.toArray n dd sl)
        ⟨ho, rfl, ⟨_, ho, rfl⟩, call_meets F.slot_tuple_mul ⟨_, ho, rfl⟩ F.entry_tuple_mul (F.args_tuple_mul_2 _ _) (tuple_mul1 l its.toArray n dd sl t) ⟨ho, ?_⟩⟩)
    exact ⟨.ref l, H, I, rfl, q1 rfl⟩
  · have hk0 : k = 0 := by omega
    subst hk0
    have c1 : (its.toArray.isEmpty || (0 : Int) == 1) = false := by
      rw [hi]
      rfl
    have c2 : (decide ((0 : Int) ≤ 0) || its.toArray.isEmpty) = true := by
      rw [decide_eq_true (Int.le_refl 0)]
      rfl
    refine wpAny_binaryOp_repeat_ref (T := "tuple") (U := "int") (by decide) ⟨_, ho, rfl⟩ (fun s' => typeIs_int s' 0 t) noFill_tuple_mul F.fills_int_mul F.slot_int_rmul repeat_tuple F.slot_int_index.lookup
      (call_meets F.slot_int_rmul (typeIs_int s 0 t) F.entry_int_rmul (F.args_int_rmul_2 _ _) (int_rmul_tuple 0 t l its.toArray n dd sl)
        ⟨ho, rfl, ⟨_, ho, rfl⟩, call_meets F.slot_tuple_mul ⟨_, ho, rfl⟩ F.entry_tuple_mul (F.args_tuple_mul_2 _ _) (tuple_mul0 l its.toArray n dd sl 0 t c0 c1 c2) ⟨ho, ?_⟩⟩)
    refine ⟨.ref s.heap.objs.size, _, I.laid (t' := s.toks) (o := .tup []) (fun b ob q => Heap.get?_push_of_some _ q) (Nat.le_refl _) ?_, rfl, q (by decide) _ (I.hok.fresh (Nat.le_refl _))⟩
    exact ⟨Nat.zero_le _, [], .nil, IsTup.new _ _⟩
theorem rep_one (v : V) : ∀ n : Nat, (List.replicate n [v]).flatten = List.replicate n v
  | 0 => rfl
  | n + 1 => by
    rw [List.replicate_succ, List.flatten_cons, rep_one v n]
    rfl
section
variable {K : PySem.W.Frag} {H : Hp} {Q : VK} {a b l : Addr} {xs ys : List V} {v : V} {k : Nat}
/-- (v,) * k: at least the tuple of k -/
theorem rd_rep1 (h : SqT K H l [v]) (hk : k ≤ 1000) (q : ∀ p H', Same H H' → SqT K H' p (List.replicate k v) → Q (.ref p) H') : rRepA K (.ref l) (.int (k : Int)) H Q := by
  refine ⟨l, k, [v], rfl, rfl, h, List.cons_ne_nil _ _, by omega, by omega, by show 1 ≤ 1000; decide, fun e => ?_, fun _ p np => ?_⟩
  · have e' : k = 1 := by omega
    subst e'
    exact q l H (Same.refl _) h
  · refine q p _ (Same.new np _) ?_
    rw [Int.toNat_natCast, rep_one]
    exact sqT upd_same
/-- one tuple behind another -/
theorem rd_catT (hx : SqT K H a xs) (hy : SqT K H b ys) (hn : xs ≠ []) (hz : xs.length + ys.length ≤ 1000000) (q : ∀ p H', Same H H' → SqT K H' p (xs ++ ys) → Q (.ref p) H') : rCatT K (.ref a) (.ref b) H Q := by
  refine ⟨a, b, xs, ys, rfl, rfl, hx, hy, hn, Nat.le_trans hz (by decide), fun e => ?_, fun _ p np => ?_⟩
  · subst e
    refine q a H (Same.refl _) ?_
    rw [List.append_nil]
    exact hx
  · exact q p _ (Same.new np _) (sqT upd_same)
end
theorem op_catTK {X : Cx} (K : PySem.W.Frag) (h : X.K = K := by rfl) : OpR X (binaryOp .Add) (rCatT K) := h ▸ op_catT
theorem op_repK {X : Cx} (K : PySem.W.Frag) (h : X.K = K := by rfl) : OpR X (binaryOp .Mult) (rRepA K) := h ▸ op_repA
theorem isiK {X : Cx} (K : PySem.W.Frag) (h : X.K = K := by rfl) : CallR X (.builtin "isinstance") (rIsi K) := h ▸ call_isi
theorem rd_isi {K : PySem.W.Frag} {H : Hp} {Q : VK} {x : V} {a n : String} {b : Bool} (ty : TyX K H x (.type a)) (h : kitB a n = some b) (q : Q (.bl b) H) : rIsi K [x, .ty n] H Q :=
  ⟨x, .ty n, .type a, .type n, b, rfl, .ty n, ty, kit_ty h, q⟩
theorem log2_small {i : Int} (h : i.natAbs < 10 ^ 40) : i.natAbs.log2 < 140 := by
  by_cases z : i.natAbs = 0
  · rw [z]; decide
  · exact (Nat.log2_lt z).mpr (Nat.lt_of_lt_of_le h (by decide))
theorem mulB_ok {i j : Int} (h1 : i.natAbs < 10 ^ 40) (h2 : j.natAbs < 10 ^ 40) : CMulB i j := by
  have a := log2_small h1
  have b := log2_small h2
  show i.natAbs.log2 + j.natAbs.log2 < 100000000
  omega
end Gd

/-! # whole numbers in rows; common measures -/
namespace Gd
open PySem PySem.Spec PyProof.Rows L2
def rLcm : List V → Hp → VK → Prop := fun vs H Q => ∃ a b : Int, vs = [.int a, .int b] ∧ a.natAbs < 2 ^ 64 ∧ b.natAbs < 2 ^ 64 ∧ Q (.int ((Nat.lcm a.natAbs b.natAbs : Nat) : Int)) H
theorem cr_lcm {X : Cx} : CallR X (.builtin "math.lcm") rLcm := by
  intro pins s σ H vs us Q I r h
  obtain ⟨a, b, rfl, ha, hb, q⟩ := h
  obtain ⟨t, u, rfl⟩ := Vals.int2 r
  exact PySem.W.mc_lcm ha hb fun _ => ⟨.int _, H, I.tok _, ⟨_, rfl⟩, q⟩
theorem tup_indexK {X : Cx} (K : PySem.W.Frag) (h : X.K = K := by rfl) : MtR X "tuple.index" (fun x xs H Q => ∃ p, ∃ ys : List Str, ∃ z j, x = .ref p ∧ xs = [.str z] ∧ SqT K H p (ys.map V.str) ∧ ys[j]? = some z ∧ (∀ m, m < j → ys[m]? ≠ some z) ∧ Q (.int (j : Nat)) H) := h ▸ mt_tup_index
theorem rd_aug {i : Nat} {te : TE} {ti : TIp} {D : Ends} {σ : L2.St} {H : Hp} {x : V} (e : σ[i]? = some (some x)) (h : te σ H fun y H1 => ti x y H1 fun z H2 => D.nx (σ.set i (some z)) H2) : tAug i te ti D σ H := ⟨x, e, h⟩
theorem rd_ipI {f : Int → Int → Int} {i j : Int} {H : Hp} {Q : VK} (q : Q (.int (f i j)) H) : ipI f (.int i) (.int j) H Q := ⟨i, j, rfl, rfl, q⟩
theorem wint_at {xs : List Int} {i : Nat} {x : V} (h : (xs.map V.int)[i]? = some x) : ∃ n, x = .int n ∧ xs[i]? = some n := by
  rw [List.getElem?_map] at h
  cases e : xs[i]? with
  | none => rw [e] at h; cases h
  | some n => rw [e] at h; exact ⟨n, (Option.some.inj h).symm, rfl⟩
theorem wint_get {xs : List Int} {i : Nat} (hi : i < xs.length) : (xs.map V.int).getD i .non = V.int (xs.getD i 0) := by
  rw [List.getD_eq_getElem?_getD, List.getD_eq_getElem?_getD, List.getElem?_map, List.getElem?_eq_getElem hi]
  rfl
theorem wzip_at (f : Int → Int → Int) {xs ys : List Int} {i : Nat} {x y : Int} (hx : xs[i]? = some x) (hy : ys[i]? = some y) : (List.zipWith f xs ys).getD i 0 = f x y := by
  rw [List.getD_eq_getElem?_getD, List.getElem?_zipWith, hx, hy]
  rfl
theorem wrange (l : List Int) : (List.range l.length).map (fun i => V.int (l.getD i 0)) = l.map V.int := by
  refine List.ext_getElem? fun i => ?_
  rw [List.getElem?_map, List.getElem?_map]
  by_cases h : i < l.length
  · rw [List.getElem?_range h, List.getElem?_eq_getElem h]
    show some (V.int (l.getD i 0)) = some (V.int l[i])
    rw [List.getD_eq_getElem?_getD, List.getElem?_eq_getElem h]
    rfl
  · rw [List.getElem?_eq_none (by rw [List.length_range]; omega), List.getElem?_eq_none (by omega)]
    rfl
theorem wrange_zip (f : Int → Int → Int) {xs ys : List Int} (h : xs.length = ys.length) : (List.range xs.length).map (fun i => V.int ((List.zipWith f xs ys).getD i 0)) = (List.zipWith f xs ys).map V.int := by
  have e : (List.zipWith f xs ys).length = xs.length := by rw [List.length_zipWith, h, Nat.min_self]
  rw [← e]
  exact wrange _
open Evl in
theorem given_all (n : Nat) (l : List Int) (h : l.length = n) : given n (fun _ => true) (fun i => V.int (l.getD i 0)) = l.map V.int := by
  unfold given
  rw [List.filter_eq_self.mpr (fun _ _ => rfl), ← h]
  exact wrange l
/-! ### pairs in a row: fractions -/
inductive PrsAt (K : PySem.W.Frag) (H : Hp) : List (Int × Int) → List V → Prop
  | nil : PrsAt K H [] []
  | cons {a b : Int} {p : Addr} {ps : List (Int × Int)} {vs : List V} : SqT K H p [.int a, .int b] → PrsAt K H ps vs → PrsAt K H ((a, b) :: ps) (.ref p :: vs)
section
variable {K : PySem.W.Frag} {H H' : Hp}
theorem PrsAt.keep (h : ∀ p xs, SqT K H p xs → SqT K H' p xs) : ∀ {ps : List (Int × Int)} {vs : List V}, PrsAt K H ps vs → PrsAt K H' ps vs
  | _, _, .nil => .nil
  | _, _, .cons a b => .cons (h _ _ a) (b.keep h)
theorem PrsAt.length : ∀ {ps : List (Int × Int)} {vs : List V}, PrsAt K H ps vs → ps.length = vs.length
  | _, _, .nil => rfl
  | _, _, .cons a b => congrArg Nat.succ b.length
theorem PrsAt.get : ∀ {ps : List (Int × Int)} {vs : List V} {i : Nat} {v : V}, PrsAt K H ps vs → vs[i]? = some v → ∃ a b p, ps[i]? = some (a, b) ∧ v = .ref p ∧ SqT K H p [.int a, .int b]
  | _, _, i, v, .nil, e => by simp at e
  | _, _, 0, v, .cons a b, e => by
    obtain rfl := Option.some.inj e
    exact ⟨_, _, _, rfl, rfl, a⟩
  | _, _, i + 1, v, .cons a b, e => b.get (i := i) e
theorem PrsAt.append : ∀ {ps qs : List (Int × Int)} {vs ws : List V}, PrsAt K H ps vs → PrsAt K H qs ws → PrsAt K H (ps ++ qs) (vs ++ ws)
  | _, _, _, _, .nil, b => b
  | _, _, _, _, .cons a r, b => .cons a (r.append b)
end
section
variable {K : PySem.W.Frag} {σ : L2.St} {H : Hp} {g : TG} {tb : TS} {a b : Addr} {xs ys : List V}
theorem forZ {Nx : L2.St → Hp → Prop} {Rt : VK} (hl : xs.length = ys.length) (Pv : Nat → L2.St → Hp → Prop) (h0 : Pv 0 σ H) (hq : ∀ i σ H, Pv i σ H → SqT K H a xs ∧ SqT K H b ys)
    (hs : ∀ (i : Nat) (x y : V) (T : Addr) (σ : L2.St) (H : Hp), xs[i]? = some x → ys[i]? = some y → Pv i σ H → H T = none → g (.ref T) σ (upd H T (.tup [x, y])) fun σ2 H2 => tb { nx := Pv (i + 1), rt := Rt, ct := Pv (i + 1), bk := Nx } σ2 H2) (hd : ∀ σ H, Pv xs.length σ H → Nx σ H) :
    ∃ W : Nat → Nat → L2.St → Hp → Prop, (∃ m, W 0 m σ H) ∧ ∀ i m σ H, W i m σ H →
      ((RZ.ItzT K a b).stop i H ∧ Nx σ H) ∨ ((RZ.ItzT K a b).go i H ∧ ∃ N : L2.St → Hp → Prop, (∀ σ' H', N σ' H' → ∃ m', m' < m ∧ W (i + 1) m' σ' H') ∧ ∀ v H', (RZ.ItzT K a b).yld i H v H' → g v σ H' fun σ2 H2 => tb { nx := N, rt := Rt, bk := Nx, ct := N } σ2 H2) :=
  RZ.for_zipT (D := { nx := Nx, rt := Rt }) hl Pv h0 hq hs hd
end
/-! ### a tuple that was just made from a list: its object is known -/
theorem tuple_frzK {X : Cx} (K : PySem.W.Frag) (hK : X.K = K := by rfl) : CallR X (.type "tuple") (fun xs H Q => ∃ p ys, xs = [.ref p] ∧ SqL K H p ys ∧ ∀ (l : Addr) (ob : Obj), H l = none → ob.dict = none → Q (.ref l) (upd H l (.frz ob (.tup ys)))) := by
  subst hK
  intro pins s σ H xs us Q I r h
  obtain ⟨p, ys, rfl, hq, q⟩ := h
  obtain ⟨u, rfl, rx⟩ := vals1 r
  cases rx
  obtain ⟨its, r', pl, hz⟩ := I.list hq
  have hlen := r'.length
  refine call_tuple_list pl.isList (fun h' kp => ?_) (by simp only [List.size_toArray] <;> omega)
  have I1 : Inv X pins σ H { s with heap := h' } := I.kept (t' := s.toks) kp
  have hget : (h'.push { cls := .type "tuple", data := .seq its.toArray }).get? h'.objs.size = some { cls := .type "tuple", data := .seq its.toArray } := by heap_get
  have I2 : Inv X pins σ (upd H h'.objs.size (.frz { cls := .type "tuple", data := .seq its.toArray } (.tup ys))) { s with heap := h'.push { cls := .type "tuple", data := .seq its.toArray } } :=
    I1.laid (t' := s.toks) (fun b o e => Heap.get?_push_of_some _ e) (Nat.le_refl _) (show ObjOk X.prog X.w _ _ _ (.frz { cls := .type "tuple", data := .seq its.toArray } (.tup ys)) from ⟨hget, hz, its, r', IsTup.new _ _⟩)
  exact ⟨.ref h'.objs.size, _, I2, rfl, q _ _ (I1.hok.fresh (Nat.le_refl _)) rfl⟩
def tBMF (r : V → List V → Hp → VK → Prop) (to : TE) (t : TA) : TE := fun σ H Q => to σ H fun x H1 => (∃ (a : Addr) (ob : Obj) (xs : List V), x = .ref a ∧ H1 a = some (.frz ob (.tup xs)) ∧ ob.dict = none) ∧ t σ H1 fun xs H2 => r x xs H2 Q
theorem pe_bmF {X : Cx} {o e : Expr} {es : List Expr} {to : TE} {t : TA} {name : Str} {apos cpos : Pos} {id : String} {r : V → List V → Hp → VK → Prop} (pa : PlainAttrs "tuple") (slot : Slot "tuple" name id) (hty : typeOf (.builtin id) = pure (.type "method_descriptor")) (hm : MtR X id r) (ho : PE X o to) (ha : PA X (e :: es) t)
    (hbase : attributeBase o name X.env (eval o X.env) = eval o X.env := by rfl)
    (hfew : ((backTo cpos (starEach (e :: es) X.env)).all (fun x => !x.1) && (backToKw cpos (keywordEach [] X.env)).all (fun x => x.1.isSome)
      && decide ((e :: es).length + ([] : List Keyword).length + (if ([] : List Keyword).isEmpty then 0 else 1) < 30)) = true := by rfl)
    (hline : (apos.endLine == cpos.line) = true := by rfl) (hs : starEach (e :: es) X.env = (false, eval e X.env) :: starEach es X.env := by rfl) (hplain : (backTo cpos (starEach es X.env)).any (·.1) = false := by rfl) :
    PE X (.Call (.Attribute o name apos) (e :: es) [] cpos) (tBMF r to t) := by
  refine ⟨fun pins s σ H Q I h => ?_⟩
  refine wpAny_Call_method_late hbase hfew hline rfl (thn (ho.run pins s σ H _ I h) fun v s1 ⟨x, H1, I1, r1, ⟨a, ob, ys, ex, ea, hd⟩, q1⟩ => ?_)
  subst ex
  obtain rfl : v = Value.ref a := r1
  obtain ⟨e0, _, its, _, ⟨o2, e2, c2, _⟩⟩ := (show ObjOk X.prog X.w H1 s1.heap a (.frz ob (.tup ys)) from I1.hok a _ ea)
  rw [e0] at e2
  obtain rfl := Option.some.inj e2
  refine ⟨"tuple", id, pa, slot, hty, ⟨ob, e0, c2⟩, (fun b e => by cases e; exact ⟨ob, e0, hd⟩), ?_⟩
  have hA := ha.run cpos pins s1 σ H1 _ I1 q1
  rw [hs] at hA ⊢
  refine Calls.callWith_builtin (by show (false || (backTo cpos (starEach es X.env)).any (·.1)) = false; rw [hplain] <;> rfl) (Calls.evalArgs_plain ?_)
  exact thn hA fun us s2 ⟨vs, H2, I2, r2, q2⟩ => hm pins s2 σ H2 (.ref a) vs _ us Q I2 rfl r2 q2
theorem rd_bmF {r : V → List V → Hp → VK → Prop} {to : TE} {t : TA} {σ : L2.St} {H : Hp} {Q : VK} (h : to σ H fun x H1 => (∃ (a : Addr) (ob : Obj) (xs : List V), x = .ref a ∧ H1 a = some (.frz ob (.tup xs)) ∧ ob.dict = none) ∧ t σ H1 fun xs H2 => r x xs H2 Q) : tBMF r to t σ H Q := h
end Gd

/-! # zip of a list and a tuple -/
namespace Gd
open PySem PySem.Spec PyProof.Rows L2
/-- the list at a and the tuple at b, as they stand at each turn, the items in new pairs -/
def ItzM (K : PySem.W.Frag) (a b : Addr) : It where
  go i H := ∃ (xs ys : List V) (x y : V), SqL K H a xs ∧ SqT K H b ys ∧ xs[i]? = some x ∧ ys[i]? = some y
  yld i H v H' := ∃ (T : Addr) (x y : V), v = .ref T ∧ H T = none ∧ H' = upd H T (.tup [x, y]) ∧ (∀ xs, SqL K H a xs → xs[i]? = some x) ∧ ∀ ys, SqT K H b ys → ys[i]? = some y
  stop i H := ∃ xs ys : List V, SqL K H a xs ∧ SqT K H b ys ∧ i = min xs.length ys.length
/-- the five cells of a zip laid at N, over what stood below -/
def znM (N a b : Addr) : Nat → Heap → Prop := fun i h => IsZip h (N + 4) (N + 2) (N + 3) .none ∧ IsTupOf2 h (N + 2) (.ref N) (.ref (N + 1)) ∧ (∃ u v, IsTupOf2 h (N + 3) u v) ∧ h.IsListIter N a i ∧ h.IsTupleIter (N + 1) b i
theorem five {N c : Addr} (h : c ∈ ([N + 4, N + 2, N + 3, N, N + 1] : List Addr)) : c = N + 4 ∨ c = N + 2 ∨ c = N + 3 ∨ c = N ∨ c = N + 1 := by simpa using h
theorem four {N c : Addr} (h : c ∈ ([N + 4, N + 3, N, N + 1] : List Addr)) : c ∈ ([N + 4, N + 2, N + 3, N, N + 1] : List Addr) := by
  simp only [List.mem_cons, List.not_mem_nil, or_false] at h ⊢
  rcases h with h | h | h | h
  · exact .inl h
  · exact .inr (.inr (.inl h))
  · exact .inr (.inr (.inr (.inl h)))
  · exact .inr (.inr (.inr (.inr h)))
theorem turn_zipM {P : Program} {w : World} {K : PySem.W.Frag} {elts : List Expr} {kk : Nat} {tpos : Pos} {N a b : Addr} (ha : a < N) (hb : b < N) :
    Turn P w K (.Tuple elts kk tpos) (ItzM K a b) [N + 4, N + 2, N + 3, N, N + 1] (N + 4) (znM N a b) where
  mem := List.mem_cons_self ..
  obj := by
    rintro i h ⟨hz, hT, ⟨u, v, hO⟩, ⟨o1, e1, _, d1⟩, ⟨o2, e2, _, d2⟩⟩ c hc
    rcases five hc with rfl | rfl | rfl | rfl | rfl
    · exact ⟨_, hz, fun v q => nomatch q⟩
    · exact ⟨_, hT, fun v q => nomatch q⟩
    · exact ⟨_, hO, fun v q => nomatch q⟩
    · exact ⟨o1, e1, fun v q => by rw [d1] at q; cases q⟩
    · exact ⟨o2, e2, fun v q => by rw [d2] at q; cases q⟩
  keep := by
    rintro i h h' ⟨hz, hT, ⟨u, v, hO⟩, h1, h2⟩ k
    exact ⟨k _ (by simp) _ hz, k _ (by simp) _ hT, ⟨u, v, k _ (by simp) _ hO⟩, h1.at fun o q => k _ (by simp) o q, h2.at fun o q => k _ (by simp) o q⟩
  item := by
    rintro X rfl rfl rfl hc i pins s σ H E I hf ⟨hz, hT, hO, h1, h2⟩ ⟨xs, ys, x, y, hx, hy, ex, ey⟩
    obtain ⟨its, rv, p1, _⟩ := I.list hx
    obtain ⟨jts, rw', p2, _⟩ := I.tuple hy
    obtain ⟨u, hu, ru⟩ := rv.get ex
    obtain ⟨v, hv, rv2⟩ := rw'.get ey
    have hh : X.A.in1.handled = none := I.ok.hd hc
    have S : ZipSep2 (N + 4) (N + 2) (N + 3) N (N + 1) [N, a] [N + 1, b] := zip_sep2 (fp1 := [a]) (fp2 := [b]) (fun c hc => by rw [List.mem_singleton.mp hc]; exact ha) (fun c hc => by rw [List.mem_singleton.mp hc]; exact hb)
    have D1 := Draws.list (prog := X.prog) (w := X.w) (A := X.A.in1) hh N a (Nat.ne_of_lt ha) its.toArray
    have D2 := Draws.tuple (prog := X.prog) (w := X.w) (A := X.A.in1) hh (N + 1) b (Nat.ne_of_lt (Nat.lt_succ_of_lt hb)) jts.toArray
    have G := GoesN.zip2 (elts := elts) (x1 := kk) (pos := tpos) S D1 D2
    have li : i < its.length := (List.getElem?_eq_some_iff.mp hu).1
    have lj : i < jts.length := (List.getElem?_eq_some_iff.mp hv).1
    have IT : s.heap.IsTuple b jts.toArray := p2
    refine G.goes i s _ E (by rw [List.size_toArray, List.size_toArray]; omega) ⟨hz, hT, hO, ⟨h1, p1.isList⟩, ⟨h2, IT⟩⟩ fun r h' tk hY st hk _ => ?_
    obtain ⟨T, x', y', rfl, hnew, hx', hy', hTT⟩ := hY
    have exu : x' = u := Option.some.inj ((show some x' = some u by rw [← hx', ← hu]; simp))
    have eyv : y' = v := Option.some.inj ((show some y' = some v by rw [← hy', ← hv]; simp))
    subst exu
    subst eyv
    have new : ObjOk X.prog X.w (upd H T (.tup [x, y])) h' T (.tup [x, y]) := ⟨by show 2 ≤ sizeLine; decide, [x', y'], .cons ru (.cons rv2 .nil), hTT⟩
    have J := I.turnedNew (t' := tk) (ch := [N + 4, N + 2, N + 3, N, N + 1]) (fun c o hcc q => hk c o (fun z => hcc (four z)) q) hf hnew new
    refine ⟨.ref T, _, J, rfl, ⟨T, x, y, rfl, I.hok.fresh hnew, rfl, fun l hl => by rw [I.list_inj hl hx]; exact ex, fun l hl => by rw [I.tuple_inj hl hy]; exact ey⟩, ⟨st.1, st.2.1, st.2.2.1, st.2.2.2.1.1, st.2.2.2.2.1⟩, fun c hcm => ?_⟩
    have hlt : c < s.heap.objs.size := by
      obtain ⟨o1, e1, _⟩ := h1
      obtain ⟨o2, e2, _⟩ := h2
      obtain ⟨u0, v0, e3⟩ := hO
      rcases five hcm with rfl | rfl | rfl | rfl | rfl
      · exact Heap.lt_size hz
      · exact Heap.lt_size hT
      · exact Heap.lt_size e3
      · exact Heap.lt_size e1
      · exact Heap.lt_size e2
    rw [upd_ne (Nat.ne_of_lt (Nat.lt_of_lt_of_le hlt hnew))]
    exact (hf c hcm).1
  done := by
    rintro X rfl rfl rfl hc i pins s σ H E I hf ⟨hz, hT, hO, h1, h2⟩ ⟨xs, ys, hx, hy, rfl⟩
    obtain ⟨its, rv, p1, _⟩ := I.list hx
    obtain ⟨jts, rw', p2, _⟩ := I.tuple hy
    have hh : X.A.in1.handled = none := I.ok.hd hc
    have S : ZipSep2 (N + 4) (N + 2) (N + 3) N (N + 1) [N, a] [N + 1, b] := zip_sep2 (fp1 := [a]) (fp2 := [b]) (fun c hc => by rw [List.mem_singleton.mp hc]; exact ha) (fun c hc => by rw [List.mem_singleton.mp hc]; exact hb)
    have D1 := Draws.list (prog := X.prog) (w := X.w) (A := X.A.in1) hh N a (Nat.ne_of_lt ha) its.toArray
    have D2 := Draws.tuple (prog := X.prog) (w := X.w) (A := X.A.in1) hh (N + 1) b (Nat.ne_of_lt (Nat.lt_succ_of_lt hb)) jts.toArray
    have G := GoesN.zip2 (elts := elts) (x1 := kk) (pos := tpos) S D1 D2
    have IT : s.heap.IsTuple b jts.toArray := p2
    have e : min xs.length ys.length = min its.toArray.size jts.toArray.size := by rw [List.size_toArray, List.size_toArray, rv.length, rw'.length]
    rw [e] at h1 h2
    exact G.stops s _ E ⟨hz, hT, hO, ⟨h1, p1.isList⟩, ⟨h2, IT⟩⟩ fun h' tk hk _ => I.turnedL (t' := tk) (ch := [N + 4, N + 2, N + 3, N, N + 1]) (fun c o hcc q => hk c o (fun z => hcc (four z)) q) hf
  self := fun A i s Q E st h => wpAny_pyIter_zip st.1 h
def iZipM (K : PySem.W.Frag) (ta : TA) : TI := fun σ H R => ta σ H fun vs H1 => ∃ (a b : Addr) (xs ys : List V), vs = [.ref a, .ref b] ∧ SqL K H1 a xs ∧ SqT K H1 b ys ∧ R (ItzM K a b) H1
theorem pi_zipM {X : Cx} {e e2 : Expr} {ta : TA} {p pos tpos : Pos} {elts : List Expr} {kk : Nat} (hg : Gl X "zip") (hm : X.mg "zip" = none) (ha : PA X [e, e2] ta)
    (hs : starEach [e, e2] X.env = (false, eval e X.env) :: starEach [e2] X.env := by rfl) (hpl : (backTo pos (starEach [e2] X.env)).any (·.1) = false := by rfl) :
    PI X (.Tuple elts kk tpos) (.Call (.Name "zip" p) [e, e2] [] pos) (iZipM X.K ta) := by
  refine ⟨fun pins s σ H R I h => ?_⟩
  refine Call_ (ld_blt I hg hm PyProof.Rows.boot_zip (PyProof.Rows.callWith_type1 (thn (ha.run pos pins s σ H _ I h) fun us s1 hh => ?_) hs hpl))
  obtain ⟨vs, H1, I1, r1, a, b, xs, ys, rfl, hqx, hqy, q⟩ := hh
  obtain ⟨u, v, rfl, r, r'⟩ := vals2 r1
  cases r
  cases r'
  obtain ⟨its, rv, p1, _⟩ := I1.list hqx
  obtain ⟨jts, rv2, p2, _⟩ := I1.tuple hqy
  obtain ⟨o2, ho2, _⟩ := id p2
  have IT : s1.heap.IsTuple b jts.toArray := p2
  have f5 : ∀ c, c ∈ ([s1.heap.objs.size + 4, s1.heap.objs.size + 2, s1.heap.objs.size + 3, s1.heap.objs.size, s1.heap.objs.size + 1] : List Addr) → FpOk X pins H1 c := fun c hcm => by
    have hle : s1.heap.objs.size ≤ c := by
      rcases five hcm with rfl | rfl | rfl | rfl | rfl
      · exact Nat.le_add_right _ _
      · exact Nat.le_add_right _ _
      · exact Nat.le_add_right _ _
      · exact Nat.le_refl _
      · exact Nat.le_add_right _ _
    exact I1.fpOk hle (I1.hok.fresh hle)
  refine zip_begins2 (begins_list a its.toArray) (begins_tuple b jts.toArray) p1.isList IT fun h' hz hT hO g1 g2 _ hk => wpAny_pyIter_zip hz ?_
  exact ⟨s1.heap.objs.size + 4, _, _, _, H1, rfl, I1.kept (t' := s1.toks) hk, turn_zipM p1.lt (Heap.lt_size ho2), ⟨hz, hT, ⟨_, _, hO⟩, ⟨_, g1, rfl, rfl⟩, ⟨_, g2, rfl, rfl⟩⟩, f5, q⟩
section
variable {K : PySem.W.Frag} {σ : L2.St} {H H1 : Hp} {ts : TA} {te : TE} {vs : List Nat} {a b : Addr} {xs ys : List V} {i1 i2 : Nat}
theorem rd_iZM {R : It → Hp → Prop} (h : ts σ H fun vs H1 => ∃ (a b : Addr) (xs ys : List V), vs = [.ref a, .ref b] ∧ SqL K H1 a xs ∧ SqT K H1 b ys ∧ R (ItzM K a b) H1) : iZipM K ts σ H R := h
theorem rd_atM {P : Addr → Addr → Prop} (h : SqL K H a xs) (h' : SqT K H b ys) (q : P a b) : ∃ (c d : Addr) (zs ws : List V), [V.ref a, V.ref b] = [.ref c, .ref d] ∧ SqL K H c zs ∧ SqT K H d ws ∧ P c d := ⟨a, b, xs, ys, rfl, h, h', q⟩
theorem walk_zipM {n : Nat} (hn : n = min xs.length ys.length) : Walk (ItzM K a b) n (fun H => SqL K H a xs ∧ SqT K H b ys)
    (fun i H v H' => ∃ (T : Addr) (x y : V), v = .ref T ∧ H T = none ∧ H' = upd H T (.tup [x, y]) ∧ xs[i]? = some x ∧ ys[i]? = some y) := by
  subst hn
  refine ⟨fun i _ hi q => ?_, fun _ q => ⟨xs, ys, q.1, q.2, rfl⟩, fun i H v H' _ q y => ?_⟩
  · have h1 : i < xs.length := by omega
    have h2 : i < ys.length := by omega
    exact ⟨xs, ys, xs[i], ys[i], q.1, q.2, List.getElem?_eq_getElem h1, List.getElem?_eq_getElem h2⟩
  · obtain ⟨T, x, z, h1, h2, h3, h4, h5⟩ := y
    exact ⟨T, x, z, h1, h2, h3, h4 xs q.1, h5 ys q.2⟩
open Evl in
theorem lc_zipM {Dl : Addr} {Qd : Hp → Prop} (v : Nat → V) (hl : xs.length = ys.length) (hn : xs.length ≤ 1000000) (hD : H1 Dl = none)
    (hx : H1 a = some (.lst xs)) (hy : SqT K H1 b ys) (hw : ∀ x y, wipe (((wipe σ vs).set i1 (some x)).set i2 (some y)) vs = wipe σ vs)
    (he : ∀ i x y H' (R : VK), xs[i]? = some x → ys[i]? = some y → Same H1 H' → (∀ H'', Same H' H'' → R (v i) H'') →
      te (((wipe σ vs).set i1 (some x)).set i2 (some y)) H' R)
    (hd : ∀ H', Same H1 H' → H' Dl = some (.lst ((List.range xs.length).map v)) → Qd H') :
    ∃ W : Nat → Nat → Hp → Prop, (∃ m, W 0 m (upd H1 Dl (.lst []))) ∧ ∀ i m H, W i m H →
      ((ItzM K a b).stop i H ∧ Qd H) ∨ ((ItzM K a b).go i H ∧ ∃ Nx : Hp → Prop, (∀ H', Nx H' → ∃ m', m' < m ∧ W (i + 1) m' H') ∧
        ∀ x H', (ItzM K a b).yld i H x H' → gTup K 2 (gCons (gName i1) (gCons (gName i2) gNil)) x (wipe σ vs) H' fun σ2 H2 => wipe σ2 vs = wipe σ vs ∧ tYes σ2 H2 fun b H3 =>
          if b = true then te σ2 H3 fun y H4 => ∃ acc, H4 Dl = some (.lst acc) ∧ acc.length < sizeLine ∧ Nx (upd H4 Dl (.lst (acc ++ [y]))) else Nx H3) := by
  refine lc_it (walk_zipM (n := xs.length) (xs := xs) (ys := ys) (by omega)) (fun i H' => Same H1 H' ∧ H' Dl = some (.lst ((List.range i).map v)))
    ⟨Same.new hD _, upd_same⟩ (fun i H' _ p => ⟨sqL (p.1 _ _ hx), p.1.seqT hy⟩) ?_ fun H' p => hd H' p.1 p.2
  rintro i z H H' hi ⟨s, e⟩ ⟨T, x, y, rfl, nT, rfl, ex, ey⟩
  have s' : Same H1 (upd H T (.tup [x, y])) := s.trans (Same.new nT _)
  have nDT : Dl ≠ T := ne_of_none e nT
  refine rd_gtup (xs := [x, y]) (sqT upd_same) rfl (rd_gcons (rd_gname (rd_gcons (rd_gname (rd_gnil ⟨hw x y, ?_⟩)))))
  refine rd_yes (iteT (he i x y _ _ ex ey s' fun H'' s'' => ⟨(List.range i).map v, s'' _ _ (by rw [upd_ne nDT]; exact e), ?_, ?_, ?_⟩))
  · rw [List.length_map, List.length_range, sizeLine_eq]
    omega
  · exact Same.put (s'.trans s'') hD _
  · rw [upd_same, List.range_succ, List.map_append]
    rfl
end
end Gd

/-! # super().__init__(..) in an own exception over another own one -/
namespace Gd
open PySem PySem.Spec PyProof.Rows L2
/-- a def that closes over its class and nothing else -/
structure SupScope (N P : List Str) (sc : Scope) : Prop where
  kd : sc.kind = .function
  c0 : sc.isCoroutine = false
  g0 : sc.isGenerator = false
  nd : N.Nodup
  fst : N.take P.length = P
  loc : ∀ x ∈ P, sc.names.lookup x = some .local
  noc : ∀ y ∈ sc.names, y.2 ≠ .cell
  one : ∀ y ∈ sc.names, y.2 = .free → y.1 = "__class__"
  sup : sc.names.lookup ("super" : Str) = some .globalImplicit
  cls : sc.names.lookup ("__class__" : Str) = some .free
/-- such a def as it stands behind the top: its cell holds the class at C -/
structure SupFun (P : Program) (K : PySem.W.Frag) (C : Addr) (qual : Str) (st : Stmt) (f : Addr) (fd : FuncData) : Prop where
  ex : ∃ (oc : Value) (od : Option Addr) (kV dc pm : Value) (an : Option Addr) (cda cc : Addr) (ct : Value) (sl : Array (Option Value)),
    fd = PySem.W.ksFn "__init__" qual (defArgs st) (defBody st) (defScope st) .none kV dc pm an (.ref cda) ct cc ∧ K.lookup f = some ⟨oc, od, .func fd, sl⟩ ∧ PySem.W.codeIn K (.ref cda) qual = true ∧
    (∃ (cl : Value) (cd : Option Addr) (cs : Array (Option Value)), K.lookup cc = some ⟨cl, cd, .cell (some (.ref C)), cs⟩) ∧
    ∃ (ccl : Value) (cdd : Option Addr) (vs : Array Value) (ccs : Array (Option Value)) (file : Str) (tf : Tok), K.lookup cda = some ⟨ccl, cdd, .fields vs, ccs⟩ ∧ vs[2]? = some (.str file tf) ∧ ((P.main.file : Str) == file) = true
  kp : PySem.W.keepIn K (.ref f) = true
/-- what the written part says of the class at C -/
structure SupC (P : Program) (K : PySem.W.Frag) (C : Addr) : Prop where
  cls : ∃ cd, PySem.W.clsIn K C = some cd
  sub : PySem.W.mroIn K C (.ref C) = some true
  val : PySem.W.subIn K (.ref C) (.type "ValueError") = some true
  met : PySem.W.ks_superIn K C C "__init__" = some (some (.builtin "ValueError.__init__"))
  opq : PySem.W.nsIn K cStatics "thirdparty.any" = some none
  top : (P.main.scope.names.lookup ("super" : Str)).isSome = false
section
variable {P : Program} {w : World} {K : PySem.W.Frag} {mg : Str → Option Value} {base : Heap}
theorem back_look {y : Str} {u : Value} : ∀ {ps : List Str} {us : List Value} {i : Nat}, ps.Nodup → ps[i]? = some y → us[i]? = some u → (ps.zip us).reverse.lookup y = some u := by
  intro ps us i nd hp hu
  have hm : (y, u) ∈ (ps.zip us).reverse := by
    rw [List.mem_reverse]
    exact List.mem_of_getElem? (i := i) (List.getElem?_zip_eq_some.mpr ⟨hp, hu⟩)
  cases h : (ps.zip us).reverse.lookup y with
  | none =>
    have := List.lookup_eq_none_iff.mp h _ hm
    simp at this
  | some v =>
    have hv := PySem.mem_of_lookup h
    rw [List.mem_reverse] at hv
    obtain ⟨j, hj⟩ := List.mem_iff_getElem?.mp hv
    obtain ⟨a, b⟩ := List.getElem?_zip_eq_some.mp hj
    have : j = i := by
      have h1 := (List.getElem?_eq_some_iff.mp a)
      have h2 := (List.getElem?_eq_some_iff.mp hp)
      obtain ⟨l1, e1⟩ := h1
      obtain ⟨l2, e2⟩ := h2
      exact (List.getElem_inj nd).mp (e1.trans e2.symm)
    subst this
    rw [b] at hu
    exact hu
/-- the surroundings of such a def's body -/
def cxS (P : Program) (w : World) (K : PySem.W.Frag) (mg : Str → Option Value) (base : Heap) (N : List Str) (qual : Str) (sc : Scope) (f cc : Addr) (cd : Value) (A : Around) (outer : List Env) (s : Shared) (H : Hp) : Cx :=
  { prog := P, w := w, K := K, mg := mg, base := base, A := A.deeper (PySem.W.ksEnv qual sc s.heap.objs.size f cd cc), N := N, s_0 := s, H_0 := H, env := PySem.W.ksEnv qual sc s.heap.objs.size f cd cc,
    outer := outer, stack := PySem.W.ksEnv qual sc s.heap.objs.size f cd cc :: outer, ex := [], calm := true, fn := fun _ => false, pn := [], xe := fun _ _ => False }
theorem inv_sup {N ps : List Str} {qual : Str} {sc : Scope} {f cc : Addr} {cd : Value} {A : Around} {outer : List Env} {s : Shared} {H : Hp} {us : List Value} {vs : List V} {h0 : Heap} {tk : Nat}
    (S : SupScope N ps sc) (hd : A.handled = none) (e0 : Env0 P w K mg base A outer s H) (hl : vs.length = ps.length) (r : Vals vs us)
    (hc : ∃ (o : Obj) (v : Option Value), K.lookup cc = some o ∧ o.data = .cell v)
    (hn : h0.Ns s.heap.objs.size fun x => (ps.zip us).reverse.lookup x) (hk : ∀ b o, s.heap.get? b = some o → h0.get? b = some o) :
    Inv (cxS P w K mg base N qual sc f cc cd A outer s H) [] (start N vs) H { s with heap := h0, toks := tk } := by
  obtain ⟨oc, vc, lc, dc⟩ := hc
  have bc : base.get? cc = some oc := e0.mod.kin _ _ lc
  have many : ps.length ≤ N.length := by
    have q := congrArg List.length S.fst
    rw [List.length_take] at q
    omega
  have onlyc : ∀ x c, (PySem.W.ksEnv qual sc s.heap.objs.size f cd cc).cells.lookup x = some c → x = "__class__" ∧ c = cc := by
    intro x c h
    have h' : ([(("__class__" : Str), cc)] : List (Str × Addr)).lookup x = some c := h
    have m := PySem.mem_of_lookup h'
    rw [List.mem_singleton] at m
    exact ⟨congrArg Prod.fst m, congrArg Prod.snd m⟩
  constructor
  case ok =>
    constructor
    case mod => exact e0.mod
    case kind => exact S.kd
    case glob => rfl
    case blt => rfl
    case above => exact Nat.le_refl _
    case inj =>
      intro x y c h1 h2
      rw [(onlyc x c h1).1, (onlyc y c h2).1]
    case has =>
      intro x hx
      have hx : sc.names.lookup x = some .cell ∨ sc.names.lookup x = some .free := hx
      rcases hx with hx | hx
      · exact absurd rfl (S.noc _ (PySem.mem_of_lookup hx))
      · have e := S.one _ (PySem.mem_of_lookup hx) rfl
        have e : x = "__class__" := e
        subst e
        exact ⟨cc, rfl⟩
    case cab => intro x c z; exact Bool.noConfusion (show false = true from z)
    case hd => exact fun _ => hd
    case frames => exact Around.frames_deeper e0.frames
    case stk => exact .inr ⟨rfl, rfl⟩
    case exf => intro b z; exact absurd (show b ∈ ([] : List Addr) from z) (by simp)
    case bs => exact e0.bs
    case bsz => exact e0.bsz
    case noex => intro b o _ z; exact absurd (show b ∈ ([] : List Addr) from z) (by simp)
    case exfs => intro b z; exact absurd (show b ∈ ([] : List Addr) from z) (by simp)
    case funs => exact e0.funs
    case frf => exact e0.frf
  case os => rfl
  case bare => exact e0.bare
  case base => exact Un.kept hk
  case loc =>
    refine ⟨_, hn, fun i y v h1 h2 h3 => ?_⟩
    have hi : i < vs.length := by
      unfold L2.start at h2
      by_cases hi : i < vs.length
      · exact hi
      · rw [List.getElem?_append_right (by simpa using hi), List.getElem?_replicate] at h2
        split at h2 <;> cases h2
    have ha : vs[i]? = some v := by
      unfold L2.start at h2
      rw [List.getElem?_append_left (by simpa using hi), List.getElem?_map] at h2
      cases e : vs[i]? with
      | none => rw [e] at h2; cases h2
      | some z => rw [e] at h2; cases h2; rfl
    obtain ⟨u, hu, rv⟩ := r.get ha
    have hp : ps[i]? = some y := by
      rw [← S.fst, List.getElem?_take_of_lt (by omega)]
      exact h1
    have ndp : ps.Nodup := by
      rw [← S.fst]
      exact S.nd.sublist (List.take_sublist _ _)
    exact ⟨u, rv, .inl ⟨S.loc y (List.mem_of_getElem? hp), back_look ndp hp hu⟩⟩
  case cell =>
    intro x c h
    rw [(onlyc x c h).2]
    exact ⟨vc, oc, hk _ _ (e0.bs _ _ bc).1, dc⟩
  case free => exact e0.hok.fresh (Nat.le_refl _)
  case freeC =>
    intro x c h
    rw [(onlyc x c h).2]
    exact (e0.bs _ _ bc).2
  case pin => intro p hp; exact absurd (show p ∈ ([] : List (Addr × Obj)) from hp) (by simp)
  case hok => exact e0.hok.kept hk
  case len =>
    unfold L2.start
    show _ = N.length
    rw [List.length_append, List.length_map, List.length_replicate]
    omega
end
section
variable {P : Program} {w : World} {K : PySem.W.Frag} {mg : Str → Option Value} {base : Heap}
/-- the bound __init__ of ValueError, called: the exception's args are laid anew -/
theorem call_sup {X : Cx} {pins : List (Addr × Obj)} {σ : L2.St} {H : Hp} {s : Shared} {a C u : Addr} {us : List Value} {A : Around} {Q E : Value → Shared → Prop} (T : OexC X.K C) (I : Inv X ((u, PySem.W.kxs_mw "ValueError.__init__" a) :: pins) σ H s)
    (e : H a = some (exo a C none)) (hl : us.length ≤ sizeLine) (h : ∀ s', Inv X pins σ H s' → Q .none s') : wpAny (model X.prog X.w) A (call (.ref u) us) Q E s := by
  obtain ⟨nm, q, N, bs, bm, sn, sub, ab, col, dd, k0, k1, k2, k3, k5, hC, hbm⟩ := T.cls
  obtain ⟨t1, ho⟩ := exo_at I.hok e
  have hu : s.heap.get? u = some (PySem.W.kxs_mw "ValueError.__init__" a) := ClX.pin_at I
  have J := ClX.unpin I
  have cC := J.kIn _ _ hC
  obtain ⟨hp, g, d, t, os⟩ := s
  have eu : upd H a (exo a C none) = H := by
    funext b
    by_cases hb : b = a
    · rw [hb, upd_same, e]
    · rw [upd_ne hb]
  have y1 : (Value.type "method-wrapper" == Value.type "method") = false := by decide
  have y2 : (Value.type "method-wrapper" == Value.type "builtin_function_or_method") = false := by decide
  have y3 : (Value.type "method-wrapper" == Value.type "method-wrapper") = true := by decide
  refine wpAny_call (codeAny_of_tree ?_)
  show wpAny (model X.prog X.w) A.in1 (callAny (.ref u) ⟨us, []⟩) _ _ ⟨hp, g, d, t, os⟩
  unfold callAny
  refine wpAny_bind (wpAny_load hu ?_)
  dsimp only
  rw [y1, y2, y3]
  rw [if_pos (by rfl)]
  refine PySem.W.KFB.if_so (by decide) ?_
  have FV := PySem.F.excBase_ValueError
  refine wpAny_bind (PySem.W.check_bound_init FV.toExcCallFacts cC ho rfl ?_)
  refine wpAny_bind (wpAny_pure (wpAny_pure ?_))
  refine ⟨plainId_quiet FV.init.plain _, codeAny_builtin FV.initEntry ?_⟩
  refine PySem.W.exc_init_tree (cls := .ref C) (t0 := t1) (dv := none) (c2 := .none) (c3 := .none) (b4 := .bool false) ho hl fun h' k hx _ => ?_
  have W := J.write (t' := t) (x := a) (e := a) (o := exo a C none) (by rw [e]; exact True.intro) (.inl rfl) k ⟨_, hx⟩ (exo_ok hx)
  rw [eu] at W
  exact h _ W
theorem sup_step {N ps : List Str} {qual : Str} {sc : Scope} {f cc cda : Addr} {A : Around} {outer : List Env} {s0 s : Shared} {H0 H : Hp} {σ : L2.St} {st : Stmt} {kV dc pm ct oc : Value} {an od : Option Addr} {sl : Array (Option Value)}
    {a C : Addr} {p0 p1 p2 p3 p4 : Pos} {ar : Arg} {e : Expr} {es : List Expr} {ta : TA} {R : Hp → Prop} {body : List Stmt}
    (S : SupScope N ps sc) (T : OexC K C) (FC : SupC P K C) (hm : mg "super" = none)
    (lk : K.lookup f = some ⟨oc, od, .func (PySem.W.ksFn "__init__" qual (defArgs st) (defBody st) (defScope st) .none kV dc pm an (.ref cda) ct cc), sl⟩)
    (hcell : ∃ (cl : Value) (cd : Option Addr) (cs : Array (Option Value)), K.lookup cc = some ⟨cl, cd, .cell (some (.ref C)), cs⟩)
    (hcode : ∃ (ccl : Value) (cdd : Option Addr) (vs : Array Value) (ccs : Array (Option Value)) (file : Str) (tf : Tok), K.lookup cda = some ⟨ccl, cdd, .fields vs, ccs⟩ ∧ vs[2]? = some (.str file tf) ∧ ((P.main.file : Str) == file) = true)
    (hf : ((defArgs st).posonlyargs ++ (defArgs st).args).head? = some ar) (h0 : ps[0]? = some ar.arg) (hN : N[0]? = some ar.arg) (hσ : σ[0]? = some (some (.ref a)))
    (I : Inv (cxS P w K mg base N qual sc f cc (.ref cda) A outer s0 H0) [] σ H s) (ea : H a = some (exo a C none))
    (ha : PA (cxS P w K mg base N qual sc f cc (.ref cda) A outer s0 H0) (e :: es) ta)
    (hr : ta σ H fun vs H1 => vs.length ≤ 1000 ∧ H1 a = some (exo a C none) ∧ R H1) {pl : Sem Bool}
    (hi : interactive (PySem.W.ksEnv qual sc s0.heap.objs.size f (.ref cda) cc) = false := by rfl)
    (hs : swapsWith (.Call (.Attribute (.Call (.Name "super" p0) [] [] p1) "__init__" p2) (e :: es) [] p3) none p4.line (PySem.W.ksEnv qual sc s0.heap.objs.size f (.ref cda) cc) = pure false := by rfl)
    (hc : eval (.Call (.Attribute (.Call (.Name "super" p0) [] [] p1) "__init__" p2) (e :: es) [] p3) (PySem.W.ksEnv qual sc s0.heap.objs.size f (.ref cda) cc) = (do
      let ov ← attributeBase (.Call (.Name "super" p0) [] [] p1) "__init__" (PySem.W.ksEnv qual sc s0.heap.objs.size f (.ref cda) cc) (eval (.Call (.Name "super" p0) [] [] p1) (PySem.W.ksEnv qual sc s0.heap.objs.size f (.ref cda) cc))
      standAt p2.atName
      let (g, first) ← holding [ov] (getMethod ov "__init__" pl)
      callWith p3 g first (backTo p3 (starEach (e :: es) (PySem.W.ksEnv qual sc s0.heap.objs.size f (.ref cda) cc))) []) := by rfl)
    (he : starEach (e :: es) (PySem.W.ksEnv qual sc s0.heap.objs.size f (.ref cda) cc) = (false, eval e (PySem.W.ksEnv qual sc s0.heap.objs.size f (.ref cda) cc)) :: starEach es (PySem.W.ksEnv qual sc s0.heap.objs.size f (.ref cda) cc) := by rfl)
    (hpl : (backTo p3 (starEach es (PySem.W.ksEnv qual sc s0.heap.objs.size f (.ref cda) cc))).any (·.1) = false := by rfl) :
    _root_.PySem.wpAt (model P w) (A.deeper (PySem.W.ksEnv qual sc s0.heap.objs.size f (.ref cda) cc)) (.func body (PySem.W.ksEnv qual sc s0.heap.objs.size f (.ref cda) cc))
      (exec (.Expr (.Call (.Attribute (.Call (.Name "super" p0) [] [] p1) "__init__" p2) (e :: es) [] p3) p4) (PySem.W.ksEnv qual sc s0.heap.objs.size f (.ref cda) cc))
      (fun fl s' => fl = .next ∧ ∃ H1, Inv (cxS P w K mg base N qual sc f cc (.ref cda) A outer s0 H0) [] σ H1 s' ∧ R H1) (fun _ _ => False) s := by
  obtain ⟨cd, hcd⟩ := FC.cls
  obtain ⟨cl, cdc, cs, lcc⟩ := hcell
  obtain ⟨ccl, cdd, cvs, ccs, file, tf, lcd, hv2, hfile⟩ := hcode
  obtain ⟨oD, hD1, hD2⟩ : ∃ oD, s.heap.get? C = some oD ∧ oD.data = .cls cd := by
    have hq := hcd
    unfold PySem.W.clsIn at hq
    split at hq
    · rename_i c d cd' sl' ho
      cases hq
      exact ⟨_, I.kIn _ _ ho, rfl⟩
    · cases hq
  obtain ⟨t1, ho⟩ := exo_at I.hok ea
  have KX := I.kIn
  obtain ⟨m, hns, hloc⟩ := I.loc
  have hka : sc.names.lookup ar.arg = some .local := S.loc _ (List.mem_of_getElem? h0)
  obtain ⟨u, hu, hlook⟩ := hloc 0 ar.arg (.ref a) hN hσ (.inl hka)
  obtain rfl : u = Value.ref a := hu
  have hself : m ar.arg = some (.ref a) := by
    rcases hlook with z | ⟨z, _⟩
    · exact z.2
    · have z : sc.names.lookup ar.arg = some .cell ∨ sc.names.lookup ar.arg = some .free := z
      rw [hka] at z
      rcases z with z | z <;> cases z
  obtain ⟨mb, hb, hbb⟩ := I.mod.blt
  refine ks_wpAt_Expr_any ?_ hi hs
  refine ks_wpAt_MethodCall (pl := pl) ?_ hc
  refine ks_wpAt_super_base (env := PySem.W.ksEnv qual sc s0.heap.objs.size f (.ref cda) cc) S.sup S.cls (by decide) rfl (KX _ _ lk) rfl hf rfl (KX _ _ lcd) rfl hv2 hfile FC.top ?_
  refine PySem.W.ks_loadName_global S.kd S.sup (Calls.loadGlobal_builtin (mg := mg) (mb := mb) (I.mod.glob.keeps I.bk) hm (hb.keeps I.bk) ((hbb _ (by decide)).trans (by first | boot_by_name | rfl | kernel_rfl)) ⟨rfl, ?_⟩)
  refine wpAny_loadName_free S.kd S.cls rfl ⟨_, KX _ _ lcc, rfl⟩ ?_
  refine wpAny_loadName_local S.kd hka hns hself ?_
  refine ks_wpAny_isType_cls hD1 hD2 ⟨rfl, ?_⟩
  obtain ⟨hp, g, d, t, os⟩ := s
  refine ks_wpAny_call_super hD1 hD2 ho rfl (fun c z => by cases z) (PySem.W.looks_mroIn KX FC.sub) (fun h' e1 k1 => ?_)
  have I1 : Inv (cxS P w K mg base N qual sc f cc (.ref cda) A outer s0 H0) [] σ H ⟨h', g, d, t, os⟩ := I.kept (t' := t) k1
  have J1 : PySem.W.InstAt h' a { cls := .ref C, dict := none, data := .fields #[.ref t1, .none, .none, .none, .bool false, .none] } C none := ⟨k1 _ _ ho, rfl, rfl, trivial⟩
  have hmet : PySem.W.alongIn K "__init__" ((cd.mro.dropWhile (· != .ref C)).drop 1) = some (some (.builtin "ValueError.__init__")) := by
    have z := FC.met
    unfold PySem.W.ks_superIn at z
    rw [hcd] at z
    exact z
  refine PySem.W.kxs_getMethod PySem.W.kxs_ValueError e1 (PySem.W.looks_opaque I1.kIn FC.opq) (l₀ := cd.mro) (fun A Q E s k q => wpAny_bind ((PySem.W.looks_clsIn I1.kIn hcd) A _ E s k (wpAny_pure q))) rfl I1.kIn hmet
    (J1.type.andThen (PySem.W.looks_subIn I1.kIn FC.val)) (PySem.W.ks_ne I1.kIn J1 hcd) (by decide) ?_
  have I2 := ClX.pin_new (t' := t + 1) (o := PySem.W.kxs_mw "ValueError.__init__" a) (a := h'.objs.size) I1 (fun b o q => Heap.get?_push_of_some _ q) (Nat.le_refl _) (Heap.get?_push_at rfl rfl) (fun v z => nomatch z)
  have run := ha.run p3 _ _ σ H _ I2 hr
  have run' := run
  change wpAny (model P w) (A.deeper (PySem.W.ksEnv qual sc s0.heap.objs.size f (.ref cda) cc)) (callWith p3 (.ref h'.objs.size) [] (backTo p3 (starEach (e :: es) (PySem.W.ksEnv qual sc s0.heap.objs.size f (.ref cda) cc))) []) _ _ _
  have he2 : starEach (e :: es) (cxS P w K mg base N qual sc f cc (.ref cda) A outer s0 H0).env = (false, eval e (PySem.W.ksEnv qual sc s0.heap.objs.size f (.ref cda) cc)) :: starEach es (PySem.W.ksEnv qual sc s0.heap.objs.size f (.ref cda) cc) := he
  rw [he2] at run
  rw [he]
  refine PySem.W.kxs_callWith (i := "ValueError.__init__") (x := a) (by show (false || (backTo p3 (starEach es (PySem.W.ksEnv qual sc s0.heap.objs.size f (.ref cda) cc))).any (·.1)) = false; rw [hpl]; rfl) ?_
  refine Calls.evalArgs_plain (wpAny_mono run (fun us s1 ⟨vs, H1, I3, r1, hl, e3, hR⟩ => ⟨ClX.pin_at I3, ?_⟩) fun _ _ z => z)
  have hlen : us.length ≤ sizeLine := by
    rw [← r1.length, sizeLine_eq]
    omega
  exact call_sup T I3 e3 hlen fun s' J => ⟨rfl, H1, J, hR⟩
/-- a def whose first step is super().__init__(..), by the rest of its body -/
theorem sup_ok {C : Addr} {qual : Str} {st : Stmt} {f : Addr} {fd : FuncData} {N ps : List Str} {k : Nat} {sp : Sp} {ar : Arg} {p0 p1 p2 p3 p4 : Pos} {e : Expr} {es : List Expr} {rest : List Stmt}
    (F : SupFun P K C qual st f fd) (S : SupScope N ps (defScope st)) (T : OexC K C) (FC : SupC P K C) (hm : mg "super" = none) (len : ∀ vs H Q E, sp vs H Q E → vs.length = ps.length)
    (hf : ((defArgs st).posonlyargs ++ (defArgs st).args).head? = some ar) (h0 : ps[0]? = some ar.arg) (hN : N[0]? = some ar.arg)
    (hbd : defBody st = .Expr (.Call (.Attribute (.Call (.Name "super" p0) [] [] p1) "__init__" p2) (e :: es) [] p3) p4 :: rest)
    (body : ∀ (cc cda : Addr) (A : Around) (outer : List Env) (s : Shared) (H : Hp) (vs : List V) (Q : VK) (E : XK), sp vs H Q E →
      ∃ (a : Addr) (ta : TA) (t : TS) (pl : Sem Bool), (start N vs)[0]? = some (some (.ref a)) ∧ H a = some (exo a C none) ∧ PA (cxS P w K mg base N qual (defScope st) f cc (.ref cda) A outer s H) (e :: es) ta ∧ PSs (cxS P w K mg base N qual (defScope st) f cc (.ref cda) A outer s H) rest t ∧
        (ta (start N vs) H fun ws H1 => ws.length ≤ 1000 ∧ H1 a = some (exo a C none) ∧ t { nx := fun _ H' => Q .non H', rt := Q } (start N vs) H1) ∧
        interactive (PySem.W.ksEnv qual (defScope st) s.heap.objs.size f (.ref cda) cc) = false ∧
        swapsWith (.Call (.Attribute (.Call (.Name "super" p0) [] [] p1) "__init__" p2) (e :: es) [] p3) none p4.line (PySem.W.ksEnv qual (defScope st) s.heap.objs.size f (.ref cda) cc) = pure false ∧
        eval (.Call (.Attribute (.Call (.Name "super" p0) [] [] p1) "__init__" p2) (e :: es) [] p3) (PySem.W.ksEnv qual (defScope st) s.heap.objs.size f (.ref cda) cc) = (do
          let ov ← attributeBase (.Call (.Name "super" p0) [] [] p1) "__init__" (PySem.W.ksEnv qual (defScope st) s.heap.objs.size f (.ref cda) cc) (eval (.Call (.Name "super" p0) [] [] p1) (PySem.W.ksEnv qual (defScope st) s.heap.objs.size f (.ref cda) cc))
          standAt p2.atName
          let (g, first) ← holding [ov] (getMethod ov "__init__" pl)
          callWith p3 g first (backTo p3 (starEach (e :: es) (PySem.W.ksEnv qual (defScope st) s.heap.objs.size f (.ref cda) cc))) []) ∧
        starEach (e :: es) (PySem.W.ksEnv qual (defScope st) s.heap.objs.size f (.ref cda) cc) = (false, eval e (PySem.W.ksEnv qual (defScope st) s.heap.objs.size f (.ref cda) cc)) :: starEach es (PySem.W.ksEnv qual (defScope st) s.heap.objs.size f (.ref cda) cc) ∧
        (backTo p3 (starEach es (PySem.W.ksEnv qual (defScope st) s.heap.objs.size f (.ref cda) cc))).any (·.1) = false) : FnOk P w K mg base CX0 (k + 1) f fd ps sp := by
  obtain ⟨oc, od, kV, dc, pm, an, cda, cc, ct, sl, rfl, lk, hcd, hcell, hcode⟩ := F.ex
  constructor
  · exact len
  intro A outer s H args us vs Q E hr e0 hb r h
  have many := len _ _ _ _ h
  have KX : K.In s.heap := e0.mod.kin.keeps fun b o q => (e0.bs b o q).1
  have lim : s.heap.NoLimit := e0.mod.nolimit.keeps fun b o q => (e0.bs b o q).1
  refine ks_codeAny_call_defAt hr.depth (KX _ _ lk) rfl lim (PySem.W.codeRec_of KX hcd) rfl hb S.noc (fun y hy => S.loc y.1 (List.of_mem_zip (show (y.1, y.2) ∈ ps.zip us from hy)).1) (fun h0' hns hk => ?_) S.c0 S.g0 S.kd
  obtain ⟨a, ta, t, pl, hσ, ea, hPA, hPS, hread, hi, hs, hc, he, hpl⟩ := body cc cda A outer s H vs Q E h
  have I := inv_sup (P := P) (w := w) (qual := qual) (f := f) (cd := .ref cda) (tk := s.toks + (ps.zip us).length) S hr.hd e0 many r (let ⟨cl, cd, cs, lc⟩ := hcell; ⟨_, _, lc, rfl⟩) hns hk
  show _root_.PySem.wpAt (model P w) (A.deeper (PySem.W.ksEnv qual (defScope st) s.heap.objs.size f (.ref cda) cc)) (.func (defBody st) (PySem.W.ksEnv qual (defScope st) s.heap.objs.size f (.ref cda) cc)) (execs (defBody st) (PySem.W.ksEnv qual (defScope st) s.heap.objs.size f (.ref cda) cc)) _ _ _
  rw [hbd]
  refine ks_wpAt_execs_cons (ks_wpAt_mono (sup_step (R := fun H1 => t { nx := fun _ H' => Q .non H', rt := Q } (start N vs) H1) S T FC hm lk hcell hcode hf h0 hN hσ I ea hPA hread (pl := pl) hi hs hc he hpl) ?_ fun _ _ z => z.elim)
  rintro fl s' ⟨rfl, H1, J, hR⟩
  refine _root_.PySem.wpAt_of_wpAny (wpAny_mono (hPS.run [] s' (start N vs) H1 _ J hR) ?_ fun _ _ z => False.elim z)
  rintro fl2 s2 z
  cases fl2 with
  | ret u =>
    obtain ⟨v, σ', H', J', rv, q⟩ := z
    exact ⟨v, H', J'.os, J'.bare, J'.base, J'.hok, rv, q⟩
  | next =>
    obtain ⟨σ', H', J', q⟩ := z
    exact ⟨V.non, H', J'.os, J'.bare, J'.base, J'.hok, rfl, q⟩
  | brk => obtain ⟨_, _, _, q⟩ := z; exact q.elim
  | cont => obtain ⟨_, _, _, q⟩ := z; exact q.elim
end
end Gd

namespace Lw
open PySem L2 Gd
def top (i : Nat) : Stmt := PySem.Challenge.pw_halftruths_k06_questions_and_sides.main.body.getD i (.Pass ⟨0, 0, 0, 0⟩)
abbrev s_WrongMark_init : Stmt := inClass (top 2) 0
abbrev s_constant : Stmt := top 5
abbrev s_added : Stmt := top 6
abbrev s_less : Stmt := top 7
abbrev s_opposite : Stmt := top 8
abbrev s_one_less : Stmt := top 9
abbrev s_question_of : Stmt := top 12
abbrev s_form_by_side : Stmt := top 13
abbrev s_least_form : Stmt := top 14
abbrev s_most_form : Stmt := top 15
abbrev s_law_begun : Stmt := top 17
abbrev s_law_draw : Stmt := top 18
abbrev s_law_of : Stmt := top 19
abbrev s_law_whole : Stmt := top 20
abbrev s_law_less : Stmt := top 21
abbrev s_law_ask : Stmt := top 22
abbrev s_law_on : Stmt := top 23
abbrev s_law_form : Stmt := top 24
abbrev s_law_given : Stmt := top 25
abbrev s_law_tried : Stmt := top 26
abbrev s_law_refused : Stmt := top 27
abbrev s_law : Stmt := top 28
/-- what the top has written -/
structure Txt (P : Program) (K : PySem.W.Frag) (mg : Str → Option Value) where
  f_constant : Addr
  d_constant : FuncData
  F_constant : Fun K "constant" "constant" s_constant f_constant d_constant
  b_constant : Binds K d_constant ["number", "count"] []
  g_constant : mg "constant" = some (.ref f_constant)
  f_added : Addr
  d_added : FuncData
  F_added : Fun K "added" "added" s_added f_added d_added
  b_added : Binds K d_added ["first", "second"] []
  g_added : mg "added" = some (.ref f_added)
  f_less : Addr
  d_less : FuncData
  F_less : Fun K "less" "less" s_less f_less d_less
  b_less : Binds K d_less ["first", "second"] []
  g_less : mg "less" = some (.ref f_less)
  f_opposite : Addr
  d_opposite : FuncData
  F_opposite : Fun K "opposite" "opposite" s_opposite f_opposite d_opposite
  b_opposite : Binds K d_opposite ["form"] []
  g_opposite : mg "opposite" = some (.ref f_opposite)
  f_one_less : Addr
  d_one_less : FuncData
  F_one_less : Fun K "one_less" "one_less" s_one_less f_one_less d_one_less
  b_one_less : Binds K d_one_less ["form"] []
  g_one_less : mg "one_less" = some (.ref f_one_less)
  f_question_of : Addr
  d_question_of : FuncData
  F_question_of : Fun K "question_of" "question_of" s_question_of f_question_of d_question_of
  b_question_of : Binds K d_question_of ["mark", "first", "second"] []
  g_question_of : mg "question_of" = some (.ref f_question_of)
  f_form_by_side : Addr
  d_form_by_side : FuncData
  F_form_by_side : Fun K "form_by_side" "form_by_side" s_form_by_side f_form_by_side d_form_by_side
  b_form_by_side : Binds K d_form_by_side ["mark", "side", "first", "second"] []
  g_form_by_side : mg "form_by_side" = some (.ref f_form_by_side)
  f_least_form : Addr
  d_least_form : FuncData
  F_least_form : Fun K "_least_form" "_least_form" s_least_form f_least_form d_least_form
  b_least_form : Binds K d_least_form ["mark", "question", "first", "second"] []
  g_least_form : mg "_least_form" = some (.ref f_least_form)
  f_most_form : Addr
  d_most_form : FuncData
  F_most_form : Fun K "_most_form" "_most_form" s_most_form f_most_form d_most_form
  b_most_form : Binds K d_most_form ["mark", "question", "first", "second"] []
  g_most_form : mg "_most_form" = some (.ref f_most_form)
  f_law_begun : Addr
  d_law_begun : FuncData
  F_law_begun : Fun K "_law_begun" "_law_begun" s_law_begun f_law_begun d_law_begun
  b_law_begun : Binds K d_law_begun ["script", "k"] []
  g_law_begun : mg "_law_begun" = some (.ref f_law_begun)
  f_law_draw : Addr
  d_law_draw : FuncData
  F_law_draw : Fun K "_law_draw" "_law_draw" s_law_draw f_law_draw d_law_draw
  b_law_draw : Binds K d_law_draw ["m", "below"] []
  g_law_draw : mg "_law_draw" = some (.ref f_law_draw)
  f_law_of : Addr
  d_law_of : FuncData
  F_law_of : Fun K "_law_of" "_law_of" s_law_of f_law_of d_law_of
  b_law_of : Binds K d_law_of ["m", "some"] []
  g_law_of : mg "_law_of" = some (.ref f_law_of)
  f_law_whole : Addr
  d_law_whole : FuncData
  F_law_whole : Fun K "_law_whole" "_law_whole" s_law_whole f_law_whole d_law_whole
  b_law_whole : Binds K d_law_whole ["value"] []
  g_law_whole : mg "_law_whole" = some (.ref f_law_whole)
  f_law_less : Addr
  d_law_less : FuncData
  F_law_less : Fun K "_law_less" "_law_less" s_law_less f_law_less d_law_less
  b_law_less : Binds K d_law_less ["one", "two"] []
  g_law_less : mg "_law_less" = some (.ref f_law_less)
  f_law_ask : Addr
  d_law_ask : FuncData
  F_law_ask : Fun K "_law_ask" "_law_ask" s_law_ask f_law_ask d_law_ask
  b_law_ask : Binds K d_law_ask ["mark", "one", "two"] []
  g_law_ask : mg "_law_ask" = some (.ref f_law_ask)
  f_law_on : Addr
  d_law_on : FuncData
  F_law_on : Fun K "_law_on" "_law_on" s_law_on f_law_on d_law_on
  b_law_on : Binds K d_law_on ["form", "spot"] []
  g_law_on : mg "_law_on" = some (.ref f_law_on)
  f_law_form : Addr
  d_law_form : FuncData
  F_law_form : Fun K "_law_form" "_law_form" s_law_form f_law_form d_law_form
  b_law_form : Binds K d_law_form ["m", "size", "great"] []
  g_law_form : mg "_law_form" = some (.ref f_law_form)
  f_law_given : Addr
  d_law_given : FuncData
  F_law_given : Fun K "_law_given" "_law_given" s_law_given f_law_given d_law_given
  b_law_given : Binds K d_law_given ["mark", "one", "two", "whole"] []
  g_law_given : mg "_law_given" = some (.ref f_law_given)
  f_law_tried : Addr
  d_law_tried : FuncData
  F_law_tried : Fun K "_law_tried" "_law_tried" s_law_tried f_law_tried d_law_tried
  b_law_tried : Binds K d_law_tried ["mark", "side", "one", "two"] []
  g_law_tried : mg "_law_tried" = some (.ref f_law_tried)
  f_law_refused : Addr
  d_law_refused : FuncData
  F_law_refused : Fun K "_law_refused" "_law_refused" s_law_refused f_law_refused d_law_refused
  b_law_refused : Binds K d_law_refused ["mark", "one", "two"] []
  g_law_refused : mg "_law_refused" = some (.ref f_law_refused)
  C_WrongMark : Addr
  m_WrongMark : mg "WrongMark" = some (.ref C_WrongMark)
  o_WrongMark : OexC K C_WrongMark
  x_WrongMark : XfC K C_WrongMark
  f_WrongMark_init : Addr
  d_WrongMark_init : FuncData
  F_WrongMark_init : SupFun P K C_WrongMark "WrongMark.__init__" s_WrongMark_init f_WrongMark_init d_WrongMark_init
  S_WrongMark : SupC P K C_WrongMark
  b_WrongMark_init : Binds K d_WrongMark_init ["self", "mark"] []
  i_WrongMark : PySem.W.findIn K (.ref C_WrongMark) "__init__" = some (some (.ref f_WrongMark_init))
  t_WrongMark : PySem.W.typeIn K (.ref f_WrongMark_init) = some (.type "function")
  n_WrongMark_mark : PySem.W.findIn K (.ref C_WrongMark) "mark" = some none
  e_WrongMark_WrongMark : PySem.W.exmOne K (.ref C_WrongMark) (.ref C_WrongMark) = some true
  z_super : mg "super" = none
  z_tuple : mg "tuple" = none
  z_zip : mg "zip" = none
  z_len : mg "len" = none
  z_int : mg "int" = none
  z_isinstance : mg "isinstance" = none
  z_bool : mg "bool" = none
  z_sum : mg "sum" = none
  z_range : mg "range" = none
  z_min : mg "min" = none
  z_max : mg "max" = none
  z_abs : mg "abs" = none
  z_all : mg "all" = none
  a_MARKS : Addr
  c_MARKS : mg "MARKS" = some (.ref a_MARKS)
  t_MARKS : ∀ H, SqT K H a_MARKS [.str "plus", .str "times", .str "leads", .str "and", .str "or", .str "same"]
  a_SIDES : Addr
  c_SIDES : mg "SIDES" = some (.ref a_SIDES)
  t_SIDES : ∀ H, SqT K H a_SIDES [.str "least", .str "most"]

local macro_rules | `(tactic| walk_at "rd1") => `(tactic| first
  | with_reducible refine rd_for ?_ | with_reducible refine rd_lc ?_ | with_reducible refine rd_iL ?_ | with_reducible refine rd_iT ?_ | with_reducible refine rd_iR1 ?_ | with_reducible refine rd_iZ ?_
  | with_reducible refine rd_pcons ?_ | with_reducible refine rd_pnil ?_ | with_reducible refine rd_disp ?_
  | with_reducible refine rd_bm ?_ | with_reducible refine rd_bm0 ?_ | with_reducible refine rd_revT ?_
  | with_reducible refine rd_gname ?_ | with_reducible refine rd_gcons ?_ | with_reducible refine rd_gnil ?_
  | with_reducible refine rd_seq ?_ | with_reducible refine rd_asg ?_ | with_reducible refine rd_asgG ?_ | with_reducible refine rd_ii ?_ | with_reducible refine rd_op ?_ | with_reducible refine rd_c ?_
  | ((with_reducible refine' rd_var ?rdh ?_); (case rdh => rfl))
  | with_reducible refine rd_i0 ?_ | with_reducible refine rd_ret ?_ | with_reducible refine rd_ifs ?_ | with_reducible refine rd_test ?_ | with_reducible refine rd_bl ?_
  | with_reducible refine rd_cb ?_ | with_reducible refine rd_cons ?_ | with_reducible refine rd_nil ?_ | with_reducible refine rd_call ?_
  | with_reducible refine rd_tup ?_ | with_reducible refine rd_lst ?_ | with_reducible refine rd_if ?_ | with_reducible refine rd_un ?_ | with_reducible refine rd_u ?_
  | with_reducible refine rd_dget ?_ | with_reducible refine rd_dput ?_ | with_reducible refine rd_par ?_ | with_reducible refine rd_pair ?_ | with_reducible refine rd_intI ?_
  | with_reducible refine rd_sl ?_ | with_reducible refine rd_nopart ?_ | with_reducible refine rd_part ?_ | with_reducible refine rd_int ?_
  | with_reducible refine rd_next ?_ | with_reducible refine rd_drop ?_ | with_reducible refine rd_retN ?_ | with_reducible refine rd_tb ?_
  | with_reducible refine rd_and ?_ | with_reducible refine rd_or ?_ | with_reducible refine rd_not ?_ | with_reducible refine rd_andV ?_ | with_reducible refine rd_orV ?_ | with_reducible refine rd_notV ?_
  | ((with_reducible refine rd_eq ?rdh ?_); (case rdh => rfl)) | ((with_reducible refine rd_ne ?rdh ?_); (case rdh => rfl))
  | ((with_reducible refine rd_i ?rdh ?_); (case rdh => first | decide | omega | exact ⟨by omega, by omega⟩ | exact ⟨by decide, by decide, by decide⟩ | exact .inl ⟨by omega, by omega⟩ | exact .inr ⟨by omega, by omega⟩))
  | (fail_if_success (with_reducible refine rd_i ?_ ?_)); dsimp only)
local macro_rules | `(tactic| walk_at "rd") => `(tactic| repeat (walk_at "rd1"))
local macro_rules | `(tactic| walk_at "difs") => `(tactic| (walk_at "rd"; repeat ((first | refine rd_true (by decide +kernel) ?_ | refine rd_false (by decide +kernel) ?_); walk_at "rd")))

/-! ### tuples of whole numbers -/
def spZip (K : PySem.W.Frag) (f : Int → Int → Int) : Sp := fun vs H Q _ => ∃ (a b : Addr) (xs ys : List Int), vs = [.ref a, .ref b] ∧ SqT K H a (xs.map V.int) ∧ SqT K H b (ys.map V.int) ∧ xs.length = ys.length ∧ xs.length ≤ 1000 ∧
  ∀ (p : Addr) (H' : Hp), Same H H' → SqT K H' p ((List.zipWith f xs ys).map V.int) → Q (.ref p) H'
theorem int_at {xs : List Int} {i : Nat} {x : V} (h : (xs.map V.int)[i]? = some x) : ∃ n, x = .int n := by
  rw [List.getElem?_map] at h
  cases e : xs[i]? with
  | none => rw [e] at h; cases h
  | some n => rw [e] at h; exact ⟨n, (Option.some.inj h).symm⟩
theorem int_at' {xs : List Int} {i : Nat} {n : Int} (h : (xs.map V.int)[i]? = some (.int n)) : xs[i]? = some n := by
  rw [List.getElem?_map] at h
  cases e : xs[i]? with
  | none => rw [e] at h; cases h
  | some m => rw [e] at h; exact congrArg some (V.int.inj (Option.some.inj h))
theorem zip_at (f : Int → Int → Int) {xs ys : List Int} {i : Nat} {x y : Int} (hx : (xs.map V.int)[i]? = some (.int x)) (hy : (ys.map V.int)[i]? = some (.int y)) : (List.zipWith f xs ys).getD i 0 = f x y := by
  rw [List.getD_eq_getElem?_getD, List.getElem?_zipWith, int_at' hx, int_at' hy]
  rfl
theorem range_ints (l : List Int) : (List.range l.length).map (fun i => V.int (l.getD i 0)) = l.map V.int := by
  refine List.ext_getElem? fun i => ?_
  rw [List.getElem?_map, List.getElem?_map]
  by_cases h : i < l.length
  · rw [List.getElem?_range h, List.getElem?_eq_getElem h]
    show some (V.int (l.getD i 0)) = some (V.int l[i])
    rw [List.getD_eq_getElem?_getD, List.getElem?_eq_getElem h]
    rfl
  · rw [List.getElem?_eq_none (by rw [List.length_range]; omega), List.getElem?_eq_none (by omega)]
    rfl
theorem range_zip (f : Int → Int → Int) {xs ys : List Int} (h : xs.length = ys.length) : (List.range xs.length).map (fun i => V.int ((List.zipWith f xs ys).getD i 0)) = (List.zipWith f xs ys).map V.int := by
  have e : (List.zipWith f xs ys).length = xs.length := by rw [List.length_zipWith, h, Nat.min_self]
  rw [← e]
  exact range_ints _
section
variable {P : Program} {w : World} {K : PySem.W.Frag} {mg : Str → Option Value} {base : Heap}
theorem sc_WrongMark_init : SupScope ["self", "mark"] ["self", "mark"] (defScope s_WrongMark_init) := ⟨rfl, rfl, rfl, by decide +kernel, rfl, by decide +kernel, by decide +kernel, by decide +kernel, rfl, rfl⟩
theorem ok_WrongMark_init (T : Txt P K mg) {k : Nat} : FnOk P w K mg base CX0 (k + 1) T.f_WrongMark_init T.d_WrongMark_init ["self", "mark"] (spInitX T.C_WrongMark "mark") := by
  refine sup_ok T.F_WrongMark_init sc_WrongMark_init T.o_WrongMark T.S_WrongMark T.z_super (fun vs H Q E h => ?_) rfl rfl rfl rfl (fun cc cda A outer s H vs Q E h => ?_)
  · obtain ⟨a, v, rfl, _⟩ := h
    rfl
  obtain ⟨a, v, rfl, e, q⟩ := h
  refine ⟨a, _, _, _, rfl, e, pa_cons pe_str pa_nil, pss_one (ps_ost (pv 0) (pv 1)), ?_, rfl, rfl, rfl, rfl, rfl⟩
  walk_at "rd"
  refine ⟨by show 1 ≤ 1000; decide, e, ?_⟩
  refine rd_ost ?_
  walk_at "rd"
  exact ⟨a, T.C_WrongMark, rfl, T.o_WrongMark, T.n_WrongMark_mark, .inl ⟨e, fun dx nd ne => q dx nd ne⟩⟩
theorem sc_added : FnScope ["first", "second", "a", "b"] ["first", "second"] (defScope s_added) := ⟨rfl, rfl, rfl, by decide +kernel, rfl, by decide +kernel, by decide +kernel⟩
theorem ok_added (T : Txt P K mg) {k : Nat} : FnOk P w K mg base CX0 (k + 1) T.f_added T.d_added ["first", "second"] (spZip K (fun a b => a + b)) := by
  refine T.F_added.ok sc_added (fun vs H Q E h => ?_) (fun cdv A outer s H vs Q E hr h => ?_)
  · obtain ⟨a, b, xs, ys, rfl, _⟩ := h
    rfl
  obtain ⟨a, b, xs, ys, rfl, ha, hb, hl, hz, q⟩ := h
  refine ⟨_, (pss_one (ps_ret (pe_callTy (tuple_ofK K) (by rfl) T.z_tuple (by decide +kernel) (pa_cons (pe_lc (own := [("a", 2), ("b", 3)]) (g := (gTup K 2 (gCons (gName 2) (gCons (gName 3) gNil)))) rfl sc_added.nd (RZ.pi_zipA (by rfl) T.z_zip (pa_cons (pv 0) (pa_cons (pv 1) pa_nil))) (blkOk_by (N := ["first", "second", "a", "b"]) (sc := defScope s_added) (by decide +kernel)) (fun _ _ _ _ _ => (pg_tup rfl (pgs_cons (pg_name (i := 2) sc_added.nd rfl (Or.inl rfl)) (pgs_cons (pg_name (i := 3) sc_added.nd rfl (Or.inl rfl)) pgs_nil)))) (fun _ _ _ _ _ => pts_nil) (fun _ _ _ _ _ => (pe_op op_add (pv 2) (pv 3)))) pa_nil)))), ?_⟩
  try dsimp only [L2.cxOf, L2.Cx.nox]
  walk_at "rd"
  refine rd_atZ ha hb fun p np => lc_zip (fun i => V.int ((List.zipWith (fun a b => a + b) xs ys).getD i 0)) (by rw [List.length_map, List.length_map]; exact hl) (by rw [List.length_map]; omega) np ha hb (fun x y => rfl) ?_ fun H' s' g => ?_
  · intro i x y H' R hx hy z r
    obtain ⟨x', rfl⟩ := int_at hx
    obtain ⟨y', rfl⟩ := int_at hy
    walk_at "rd"
    have e := zip_at (fun a b => a + b) hx hy
    have r' := r H' (Same.refl _)
    rw [e] at r'
    exact r'
  · walk_at "rd"
    refine ⟨p, _, rfl, .inl ⟨sqL g, fun l nl => ?_⟩⟩
    refine q l _ (s'.trans (Same.new nl _)) (sqT ?_)
    rw [upd_same, List.length_map, range_zip _ hl]
theorem sc_less : FnScope ["first", "second", "a", "b"] ["first", "second"] (defScope s_less) := ⟨rfl, rfl, rfl, by decide +kernel, rfl, by decide +kernel, by decide +kernel⟩
theorem ok_less (T : Txt P K mg) {k : Nat} : FnOk P w K mg base CX0 (k + 1) T.f_less T.d_less ["first", "second"] (spZip K (fun a b => a - b)) := by
  refine T.F_less.ok sc_less (fun vs H Q E h => ?_) (fun cdv A outer s H vs Q E hr h => ?_)
  · obtain ⟨a, b, xs, ys, rfl, _⟩ := h
    rfl
  obtain ⟨a, b, xs, ys, rfl, ha, hb, hl, hz, q⟩ := h
  refine ⟨_, (pss_one (ps_ret (pe_callTy (tuple_ofK K) (by rfl) T.z_tuple (by decide +kernel) (pa_cons (pe_lc (own := [("a", 2), ("b", 3)]) (g := (gTup K 2 (gCons (gName 2) (gCons (gName 3) gNil)))) rfl sc_less.nd (RZ.pi_zipA (by rfl) T.z_zip (pa_cons (pv 0) (pa_cons (pv 1) pa_nil))) (blkOk_by (N := ["first", "second", "a", "b"]) (sc := defScope s_less) (by decide +kernel)) (fun _ _ _ _ _ => (pg_tup rfl (pgs_cons (pg_name (i := 2) sc_less.nd rfl (Or.inl rfl)) (pgs_cons (pg_name (i := 3) sc_less.nd rfl (Or.inl rfl)) pgs_nil)))) (fun _ _ _ _ _ => pts_nil) (fun _ _ _ _ _ => (pe_op op_sub (pv 2) (pv 3)))) pa_nil)))), ?_⟩
  try dsimp only [L2.cxOf, L2.Cx.nox]
  walk_at "rd"
  refine rd_atZ ha hb fun p np => lc_zip (fun i => V.int ((List.zipWith (fun a b => a - b) xs ys).getD i 0)) (by rw [List.length_map, List.length_map]; exact hl) (by rw [List.length_map]; omega) np ha hb (fun x y => rfl) ?_ fun H' s' g => ?_
  · intro i x y H' R hx hy z r
    obtain ⟨x', rfl⟩ := int_at hx
    obtain ⟨y', rfl⟩ := int_at hy
    walk_at "rd"
    have e := zip_at (fun a b => a - b) hx hy
    have r' := r H' (Same.refl _)
    rw [e] at r'
    exact r'
  · walk_at "rd"
    refine ⟨p, _, rfl, .inl ⟨sqL g, fun l nl => ?_⟩⟩
    refine q l _ (s'.trans (Same.new nl _)) (sqT ?_)
    rw [upd_same, List.length_map, range_zip _ hl]
theorem sc_law_less : FnScope ["one", "two", "part", "other"] ["one", "two"] (defScope s_law_less) := ⟨rfl, rfl, rfl, by decide +kernel, rfl, by decide +kernel, by decide +kernel⟩
theorem ok_law_less (T : Txt P K mg) {k : Nat} : FnOk P w K mg base CX0 (k + 1) T.f_law_less T.d_law_less ["one", "two"] (spZip K (fun a b => a - b)) := by
  refine T.F_law_less.ok sc_law_less (fun vs H Q E h => ?_) (fun cdv A outer s H vs Q E hr h => ?_)
  · obtain ⟨a, b, xs, ys, rfl, _⟩ := h
    rfl
  obtain ⟨a, b, xs, ys, rfl, ha, hb, hl, hz, q⟩ := h
  refine ⟨_, (pss_one (ps_ret (pe_callTy (tuple_ofK K) (by rfl) T.z_tuple (by decide +kernel) (pa_cons (pe_lc (own := [("part", 2), ("other", 3)]) (g := (gTup K 2 (gCons (gName 2) (gCons (gName 3) gNil)))) rfl sc_law_less.nd (RZ.pi_zipA (by rfl) T.z_zip (pa_cons (pv 0) (pa_cons (pv 1) pa_nil))) (blkOk_by (N := ["one", "two", "part", "other"]) (sc := defScope s_law_less) (by decide +kernel)) (fun _ _ _ _ _ => (pg_tup rfl (pgs_cons (pg_name (i := 2) sc_law_less.nd rfl (Or.inl rfl)) (pgs_cons (pg_name (i := 3) sc_law_less.nd rfl (Or.inl rfl)) pgs_nil)))) (fun _ _ _ _ _ => pts_nil) (fun _ _ _ _ _ => (pe_op op_sub (pv 2) (pv 3)))) pa_nil)))), ?_⟩
  try dsimp only [L2.cxOf, L2.Cx.nox]
  walk_at "rd"
  refine rd_atZ ha hb fun p np => lc_zip (fun i => V.int ((List.zipWith (fun a b => a - b) xs ys).getD i 0)) (by rw [List.length_map, List.length_map]; exact hl) (by rw [List.length_map]; omega) np ha hb (fun x y => rfl) ?_ fun H' s' g => ?_
  · intro i x y H' R hx hy z r
    obtain ⟨x', rfl⟩ := int_at hx
    obtain ⟨y', rfl⟩ := int_at hy
    walk_at "rd"
    have e := zip_at (fun a b => a - b) hx hy
    have r' := r H' (Same.refl _)
    rw [e] at r'
    exact r'
  · walk_at "rd"
    refine ⟨p, _, rfl, .inl ⟨sqL g, fun l nl => ?_⟩⟩
    refine q l _ (s'.trans (Same.new nl _)) (sqT ?_)
    rw [upd_same, List.length_map, range_zip _ hl]
end

/-! ### the draws -/
/-- at m stands a state from which at most n draws by place were made -/
def MAt (H : Hp) (m : Addr) (n : Nat) : Prop := ∃ (l s p : Int) (c : Addr) (cs : List Int), H m = some (.dK (mk l s c p)) ∧ H c = some (.lst (cs.map V.int)) ∧
  cs ≠ [] ∧ cs.length ≤ 200 ∧ 0 ≤ l ∧ 0 ≤ s ∧ s < 2147483647 ∧ 0 ≤ p ∧ p ≤ (n : Int)
theorem MAt.mono {H : Hp} {m : Addr} {n k : Nat} (h : MAt H m n) (q : n ≤ k) : MAt H m k := by
  obtain ⟨l, s, p, c, cs, a1, a2, a3, a4, a5, a6, a7, a8, a9⟩ := h
  exact ⟨l, s, p, c, cs, a1, a2, a3, a4, a5, a6, a7, a8, by omega⟩
theorem MAt.same {H H' : Hp} {m : Addr} {n : Nat} (h : MAt H m n) (q : Same H H') : MAt H' m n := by
  obtain ⟨l, s, p, c, cs, a1, a2, r⟩ := h
  exact ⟨l, s, p, c, cs, q _ _ a1, q _ _ a2, r⟩
theorem MAt.dict {H : Hp} {m : Addr} {n : Nat} (h : MAt H m n) : ∃ kvs, H m = some (.dK kvs) := by
  obtain ⟨l, s, p, c, cs, a1, _⟩ := h
  exact ⟨_, a1⟩
theorem MAt.tup {H H' : Hp} {m p : Addr} {n : Nat} {xs : List V} (h : MAt H m n) (k : Kp m H H') (e : H p = some (.tup xs)) : H' p = some (.tup xs) := by
  obtain ⟨kvs, hm⟩ := h.dict
  exact k.get e hm (fun z => nomatch z)
theorem MAt.lst {H H' : Hp} {m p : Addr} {n : Nat} {xs : List V} (h : MAt H m n) (k : Kp m H H') (e : H p = some (.lst xs)) : H' p = some (.lst xs) := by
  obtain ⟨kvs, hm⟩ := h.dict
  exact k.get e hm (fun z => nomatch z)
def spDraw : Sp := fun vs H Q _ => ∃ (m : Addr) (n : Nat) (below : Int), vs = [.ref m, .int below] ∧ MAt H m n ∧ n ≤ 1000000 ∧ 0 < below ∧ below < 2 ^ 1000 ∧
  ∀ (r : Int) (H' : Hp), 0 ≤ r → r < below → Kp m H H' → MAt H' m (n + 1) → Q (.int r) H'
/-- the list of the cells of the state at m -/
def Cel (H : Hp) (m c : Addr) : Prop := ∃ l s p : Int, H m = some (.dK (mk l s c p))
theorem Cel.eq {H : Hp} {m c d : Addr} {l s p : Int} (h : Cel H m d) (e : H m = some (.dK (mk l s c p))) : c = d := by
  obtain ⟨l', s', p', e'⟩ := h
  rw [e] at e'
  have e2 := HO.dK.inj (Option.some.inj e')
  unfold mk at e2
  simp only [List.cons.injEq, Prod.mk.injEq, V.ref.injEq] at e2
  exact e2.2.2.1.2
theorem MAt.cel {H : Hp} {m : Addr} {n : Nat} (h : MAt H m n) : ∃ c, Cel H m c ∧ (∃ o, H c = some o) := by
  obtain ⟨l, s, p, c, cs, a1, a2, _⟩ := h
  exact ⟨c, ⟨l, s, p, a1⟩, _, a2⟩
theorem MAt.upd {H : Hp} {m c a : Addr} {n : Nat} (h : MAt H m n) (hc : Cel H m c) (h1 : a ≠ m) (h2 : a ≠ c) (o : HO) : MAt (upd H a o) m n := by
  obtain ⟨l, s, p, c', cs, a1, a2, r⟩ := h
  obtain rfl := hc.eq a1
  exact ⟨l, s, p, c', cs, by rw [upd_ne (Ne.symm h1)]; exact a1, by rw [upd_ne (Ne.symm h2)]; exact a2, r⟩
def spDrawC : Sp := fun vs H Q _ => ∃ (m : Addr) (n : Nat) (below : Int), vs = [.ref m, .int below] ∧ MAt H m n ∧ n ≤ 1000000 ∧ 0 < below ∧ below < 2 ^ 1000 ∧
  ∀ (r : Int) (H' : Hp), 0 ≤ r → r < below → Kp m H H' → MAt H' m (n + 1) → (∀ c, Cel H m c → Cel H' m c) → Q (.int r) H'
theorem FnOk_weak {P : Program} {w : World} {K : PySem.W.Frag} {mg : Str → Option Value} {base : Heap} {CX : CXT} {k : Nat} {f : Addr} {fd : FuncData} {ps : List Str} {sp sp' : Sp} (F : FnOk P w K mg base CX k f fd ps sp) (h : ∀ vs H Q E, sp' vs H Q E → sp vs H Q E) : FnOk P w K mg base CX k f fd ps sp' :=
  ⟨fun vs H Q E z => F.len vs H Q E (h vs H Q E z), fun A outer s H args us vs Q E hr e0 hb r z => F.run A outer s H args us vs Q E hr e0 hb r (h vs H Q E z)⟩
section
variable {P : Program} {w : World} {K : PySem.W.Frag} {mg : Str → Option Value} {base : Heap}
theorem sc_law_draw : FnScope ["m", "below", "found", "spot", "cells", "added_v", "cell", "blend"] ["m", "below"] (defScope s_law_draw) := ⟨rfl, rfl, rfl, by decide +kernel, rfl, by decide +kernel, by decide +kernel⟩
theorem ok_law_drawC (T : Txt P K mg) {k : Nat} : FnOk P w K mg base CX0 (k + 1) T.f_law_draw T.d_law_draw ["m", "below"] spDrawC := by
  refine T.F_law_draw.ok sc_law_draw (fun vs H Q E h => ?_) (fun cdv A outer s H vs Q E hr h => ?_)
  · obtain ⟨m, n, below, rfl, _⟩ := h
    rfl
  obtain ⟨m, n, below, rfl, ⟨l, sd, p, c, cs, a1, a2, a3, a4, a5, a6, a7, a8, a9⟩, hn, hb, hb2, q⟩ := h
  refine ⟨_, (pss_cons (ps_if (pt_cmpR op_gt (pe_dget (hu_of hr) (pv 0) pe_str (fun _ _ => rfl)) pe_int (by rfl)) (pss_cons (ps_set (i := 2) sc_law_draw.nd rfl (Or.inl rfl) (pe_op op_mod (pe_callTy call_int1 (by rfl) T.z_int (by decide +kernel) (pa_cons (pe_dget (hu_of hr) (pv 0) pe_str (fun _ _ => rfl)) pa_nil)) (pv 1)))
    (pss_cons (ps_dput (hu_of hr) (pv 0) pe_str (pe_op op_fdivW (pe_dget (hu_of hr) (pv 0) pe_str (fun _ _ => rfl)) (pv 1)) rfl)
    (pss_one (ps_ret (pv 2))))) pss_nil)
    (pss_cons (ps_set (i := 3) sc_law_draw.nd rfl (Or.inl rfl) (pe_dget (hu_of hr) (pv 0) pe_str (fun _ _ => rfl)))
    (pss_cons (ps_dput (hu_of hr) (pv 0) pe_str (pe_op op_add (pv 3) pe_int) rfl)
    (pss_cons (ps_par (i := 4) (j := 5) (by rfl) sc_law_draw.nd rfl rfl (by decide) rfl rfl (pa_cons (pe_dget (hu_of hr) (pv 0) pe_str (fun _ _ => rfl)) (pa_cons (pe_op op_add (pe_dget (hu_of hr) (pv 0) pe_str (fun _ _ => rfl)) (pe_op op_mul (pe_op op_mul pe_int (pv 3)) (pv 3))) pa_nil)) (by rfl))
    (pss_cons (ps_set (i := 6) sc_law_draw.nd rfl (Or.inl rfl) (pe_ix (ix_listK K) (pv 4) (pe_op op_mod (pe_callTy call_int1 (by rfl) T.z_int (by decide +kernel) (pa_cons (pv 3) pa_nil)) (pe_callB (len_seqK K) (by rfl) T.z_len (by decide +kernel) (pa_cons (pv 4) pa_nil))) (fun _ _ => rfl)))
    (pss_cons (ps_set (i := 7) sc_law_draw.nd rfl (Or.inl rfl) (pe_op op_mod (pe_callTy call_int1 (by rfl) T.z_int (by decide +kernel) (pa_cons (pe_op op_add (pe_op op_mul (pv 6) (pe_op op_add (pe_op op_mul pe_int (pv 3)) pe_int)) (pv 5)) pa_nil)) pe_int))
    (pss_cons (ps_set (i := 7) sc_law_draw.nd rfl (Or.inl rfl) (pe_op op_mod (pe_callTy call_int1 (by rfl) T.z_int (by decide +kernel) (pa_cons (pe_op op_add (pe_op op_add (pe_op op_mul (pv 7) (pv 7)) (pe_op op_mul pe_int (pv 3))) (pe_dget (hu_of hr) (pv 0) pe_str (fun _ _ => rfl))) pa_nil)) pe_int))
    (pss_one (ps_ret (pe_op op_mod (pe_op op_fdiv (pe_op op_mod (pe_callTy call_int1 (by rfl) T.z_int (by decide +kernel) (pa_cons (pe_op op_add (pe_op op_mul (pv 7) pe_int) (pv 3)) pa_nil)) pe_int) pe_int) (pv 1))))))))))), ?_⟩
  try dsimp only [L2.cxOf, L2.Cx.nox]
  walk_at "rd"
  refine rd_dgetK a1 val_left ?_
  walk_at "rd"
  refine rd_two (fun cl => ?_) (fun cl => ?_)
  · walk_at "rd"
    refine rd_dgetK a1 val_left ?_
    walk_at "rd"
    refine rd_dgetK a1 val_left ?_
    walk_at "rd"
    refine rd_i (wide_div hb (b := 1000) (by omega) (by decide) (by decide)) ?_
    walk_at "rd"
    refine rd_dputK a1 put_left (show 4 < 1000000 by decide) ?_
    walk_at "rd"
    refine q _ _ (Int.emod_nonneg _ (by omega)) (Int.emod_lt_of_pos _ hb) (Kp.at _) ?_ (fun c' h' => by rw [← h'.eq a1]; exact ⟨_, _, _, upd_same⟩)
    exact ⟨_, sd, p, c, cs, upd_same, (by rw [upd_ne (ne_of a2 a1 (fun z => nomatch z))]; exact a2), a3, a4, Int.ediv_nonneg a5 (by omega), a6, a7, a8, by omega⟩
  · walk_at "rd"
    refine rd_dgetK a1 val_spot ?_
    walk_at "rd"
    refine rd_dputK a1 put_spot (show 4 < 1000000 by decide) ?_
    have b1 : (upd H m (.dK (mk l sd c (p + 1)))) m = some (.dK (mk l sd c (p + 1))) := upd_same
    have b2 : (upd H m (.dK (mk l sd c (p + 1)))) c = some (.lst (cs.map V.int)) := by
      rw [upd_ne (ne_of a2 a1 (fun z => nomatch z))]
      exact a2
    walk_at "rd"
    refine rd_dgetK b1 val_cells ?_
    walk_at "rd"
    refine rd_dgetK b1 val_seed ?_
    walk_at "rd"
    refine rd_len (.inl (sqL b2)) ?_
    have h0 : 0 < cs.length := List.length_pos_iff.mpr a3
    have h1 : 0 < (cs.map V.int).length := by rw [List.length_map]; exact h0
    walk_at "rd"
    obtain ⟨z, hz⟩ : ∃ z : Int, atI (cs.map V.int) (p % ((cs.map V.int).length : Int)) = some (.int z) := by
      obtain ⟨v, e, hm⟩ := atI_mod (xs := cs.map V.int) p (fun z => a3 (List.map_eq_nil_iff.mp z))
      obtain ⟨z, _, rfl⟩ := List.mem_map.mp hm
      exact ⟨z, e⟩
    refine rd_ixL (sqL b2) hz ?_
    walk_at "rd"
    refine rd_dgetK b1 val_seed ?_
    walk_at "rd"
    refine q _ _ (Int.emod_nonneg _ (by omega)) (Int.emod_lt_of_pos _ hb) (Kp.at _) ?_ (fun c' h' => by rw [← h'.eq a1]; exact ⟨_, _, _, upd_same⟩)
    exact ⟨l, sd, p + 1, c, cs, b1, b2, a3, a4, a5, a6, a7, by omega, by omega⟩
theorem ok_law_draw (T : Txt P K mg) {k : Nat} : FnOk P w K mg base CX0 (k + 1) T.f_law_draw T.d_law_draw ["m", "below"] spDraw :=
  FnOk_weak (ok_law_drawC T) fun vs H Q E ⟨m, n, below, e, hm, hn, hb, hb2, q⟩ => ⟨m, n, below, e, hm, hn, hb, hb2, fun r H' r0 r1 k h _ => q r H' r0 r1 k h⟩
end

/-! ### the state that a law begins with, and what is drawn from a list -/
def spBegun (K : PySem.W.Frag) : Sp := fun vs H Q _ => ∃ (a : Addr) (ns : List Int) (k : Int), vs = [.ref a, .int k] ∧ SqL K H a (ns.map V.int) ∧ ns.length ≤ 63 ∧ 0 ≤ k ∧ k ≤ 1000 ∧
  ∀ (m : Addr) (H' : Hp), Same H H' → H m = none → MAt H' m 0 → Q (.ref m) H'
section
variable {P : Program} {w : World} {K : PySem.W.Frag} {mg : Str → Option Value} {base : Heap}
theorem sc_law_begun : FnScope ["script", "k", "cells", "great", "begun", "cell"] ["script", "k"] (defScope s_law_begun) := ⟨rfl, rfl, rfl, by decide +kernel, rfl, by decide +kernel, by decide +kernel⟩
theorem ok_law_begun (T : Txt P K mg) {k : Nat} : FnOk P w K mg base CX0 (k + 1) T.f_law_begun T.d_law_begun ["script", "k"] (spBegun K) := by
  refine T.F_law_begun.ok sc_law_begun (fun vs H Q E h => ?_) (fun cdv A outer s H vs Q E hr h => ?_)
  · obtain ⟨a, ns, k, rfl, _⟩ := h
    rfl
  obtain ⟨a, ns, k, rfl, hS, hl, k0, k1, q⟩ := h
  refine ⟨_, (pss_cons (ps_set (i := 2) sc_law_begun.nd rfl (Or.inl rfl) (pe_op op_cat (pe_slice (sl_listK K) (pv 0) (po_some (pv 1)) po_none) (pe_slice (sl_listK K) (pv 0) po_none (po_some (pv 1)))))
    (pss_cons (ps_setLc (i := 3) (own := [("cell", 5)]) (g := (gName 5)) rfl sc_law_begun.nd rfl rfl (sw_true rfl rfl rfl (by decide +kernel)) (pi_list (pv 0)) (blkOk_by (N := ["script", "k", "cells", "great", "begun", "cell"]) (sc := defScope s_law_begun) (by decide +kernel)) (fun _ _ _ _ _ => (pg_name (i := 5) sc_law_begun.nd rfl (Or.inl rfl))) (fun _ _ _ _ _ => (pts_one (pt_cmpR op_ge (pv 5) (pe_op op_pow pe_int pe_int) (by rfl)))) (fun _ _ _ _ _ => (pv 5)))
    (pss_cons (ps_set (i := 4) sc_law_begun.nd rfl (Or.inl rfl) (pe_op op_add pe_int (pe_op op_mul pe_int (pv 1))))
    (pss_cons (ps_for PassesOwn.never rfl (pi_list (pv 2)) (pg_name (i := 5) sc_law_begun.nd rfl (Or.inl rfl)) (pss_one (ps_set (i := 4) sc_law_begun.nd rfl (Or.inl rfl) (pe_op op_mod (pe_callTy call_int1 (by rfl) T.z_int (by decide +kernel) (pa_cons (pe_op op_add (pe_op op_mul (pv 4) pe_int) (pv 5)) pa_nil)) pe_int))))
    (pss_one (ps_ret (pe_disp (pps_cons pe_str (pe_ifExp (pt_cmpR op_lt (pv 1) (pe_callB (len_seqK K) (by rfl) T.z_len (by decide +kernel) (pa_cons (pv 3) pa_nil)) (by rfl)) (pe_ix (ix_listK K) (pv 3) (pv 1) (fun _ _ => rfl)) pe_int) (pps_cons pe_str (pv 4) (pps_cons pe_str (pe_op op_cat (pv 2) (pe_lst (pa_cons (pe_op op_add (pe_op op_mul pe_int (pv 1)) pe_int) pa_nil))) (pps_cons pe_str pe_int pps_nil)))) (by rfl) (by rfl) (fun z => by cases z) (by decide)))))))), ?_⟩
  try dsimp only [L2.cxOf, L2.Cx.nox]
  walk_at "rd"
  refine rd_slL hS fun p1 n1 => ?_
  have s1 := Same.new n1 (.lst (cutV (ns.map V.int) (some k) none))
  walk_at "rd"
  refine rd_slL (s1.seq hS) fun p2 n2 => ?_
  obtain ⟨m1, e1, h1⟩ := cut_ints ns (some k) none
  obtain ⟨m2, e2, h2⟩ := cut_ints ns none (some k)
  have s2 := s1.trans (Same.new n2 (.lst (cutV (ns.map V.int) none (some k))))
  have g1 := (Same.new n2 (.lst (cutV (ns.map V.int) none (some k)))) _ _ (upd_same (H := H) (a := p1) (o := .lst (cutV (ns.map V.int) (some k) none)))
  generalize hH2 : upd (upd H p1 (.lst (cutV (ns.map V.int) (some k) none))) p2 (.lst (cutV (ns.map V.int) none (some k))) = H2 at *
  have g2 : H2 p2 = some (.lst (cutV (ns.map V.int) none (some k))) := by rw [← hH2]; exact upd_same
  rw [e1] at g1
  rw [e2] at g2
  refine rd_cat g1 g2 (by rw [List.length_map, List.length_map]; omega) fun p3 n3 => ?_
  have s3 := s2.trans (Same.new n3 (.lst (m1.map V.int ++ m2.map V.int)))
  have g3 : (upd H2 p3 (.lst (m1.map V.int ++ m2.map V.int))) p3 = _ := upd_same
  generalize hH3 : upd H2 p3 (.lst (m1.map V.int ++ m2.map V.int)) = H3 at *
  rw [← List.map_append] at g3
  have h3 : (m1 ++ m2).length ≤ 126 := by rw [List.length_append]; omega
  generalize m1 ++ m2 = cs at g3 h3
  walk_at "rd"
  refine rd_atL (s3.seq hS) fun p4 n4 => lc_src walk_list (fun i => .int (ns.getD i 0)) ?_ (fun i => decide ((10 : Int) ^ 18 ≤ ns.getD i 0)) (fun i => .int (ns.getD i 0))
    (by rw [List.length_map]; omega) n4 (fun H' z => z.seq (s3.seq hS)) (fun x => rfl) ?_ ?_ ?_
  · rintro i H0 x H' hi ⟨rfl, e⟩
    refine ⟨rfl, ?_⟩
    rw [List.getElem?_map] at e
    cases z : ns[i]? with
    | none => rw [z] at e; cases e
    | some y =>
      rw [z] at e
      rw [List.getD_eq_getElem?_getD, z]
      exact (Option.some.inj e).symm
  · intro i H' R hi z r
    walk_at "rd"
    exact r
  · intro i H' R hi hf z r
    walk_at "rd"
    exact r H' (Same.refl _)
  intro H4 s4 g4
  rw [given_ints] at g4
  have pos : ∀ z ∈ ((List.range (ns.map V.int).length).filter fun i => decide ((10 : Int) ^ 18 ≤ ns.getD i 0)).map (fun i => ns.getD i 0), 0 ≤ z := by
    intro z hz
    obtain ⟨i, hi, rfl⟩ := List.mem_map.mp hz
    have := of_decide_eq_true (List.mem_filter.mp hi).2
    omega
  generalize (((List.range (ns.map V.int).length).filter fun i => decide ((10 : Int) ^ 18 ≤ ns.getD i 0)).map (fun i => ns.getD i 0)) = gs at g4 pos
  have g3' := s4 _ _ g3
  walk_at "rd"
  refine rd_atL (sqL g3') (forL (xs := cs.map V.int) (fun i σ H' => ∃ (b : Int) (x : Option V), σ = [some (.ref a), some (.int k), some (.ref p3), some (.ref p4), some (.int b), x] ∧
    0 ≤ b ∧ b < 2147483647 ∧ H' = H4) ⟨53 + 8 * k, none, rfl, by omega, by omega, rfl⟩ (fun i σ H' _ ⟨_, _, _, _, _, e⟩ => by rw [e]; exact sqL g3') ?_ ?_)
  · rintro i x σ H' hi ⟨b, y, rfl, b0, b1, rfl⟩
    obtain ⟨z, _, rfl⟩ := List.mem_map.mp (List.mem_of_getElem? hi)
    walk_at "rd"
    exact ⟨_, _, rfl, Int.emod_nonneg _ (by decide), Int.emod_lt_of_pos _ (by decide), rfl⟩
  · rintro σ H' ⟨b, y, rfl, b0, b1, rfl⟩
    walk_at "rd"
    intro m nm
    have s5 : Same H' _ := Same.new nm (.dK [])
    have g5 := (Same.new nm (.dK [])) _ _ g4
    have g6 := (Same.new nm (.dK [])) _ _ g3'
    have rest : ∀ l : Int, 0 ≤ l → tPairs [(tC (V.str (Str.ofString "seed")), tVar 4), (tC (V.str (Str.ofString "cells")), tOp rCat (tVar 2)
        (tLst (tCons (tOp (rI0 fun i j => V.int (i + j)) (tOp (rI CMul fun i j => V.int (i * j)) (tC (V.int 41)) (tVar 1)) (tC (V.int 13))) tNil))),
        (tC (V.str (Str.ofString "spot")), tC (V.int 0))] [some (.ref a), some (.int k), some (.ref p3), some (.ref p4), some (.int b), y] (upd H' m (.dK [])) fun ps H2 =>
          H2 m = some (.dK []) ∧ ∃ kvs : List (Key × V), (V.str (Str.ofString "left"), V.int l) :: ps = kvs.map (fun kv => (kV kv.1, kv.2)) ∧ kvs.length ≤ 15 ∧ Q (.ref m) (upd H2 m (.dK (mergeK [] kvs))) := by
      intro l hl
      walk_at "rd"
      refine ⟨by show 1 ≤ sizeLine; decide, fun p5 n5 => ?_⟩
      have s6 := s5.trans (Same.new n5 (.lst [V.int (41 * k + 13)]))
      have g7 := (Same.new n5 (.lst [V.int (41 * k + 13)])) _ _ g6
      have m1 := (Same.new n5 (.lst [V.int (41 * k + 13)])) _ _ (upd_same (H := H') (a := m) (o := .dK []))
      refine rd_cat g7 upd_same (by rw [List.length_map]; show cs.length + 1 ≤ 1000000; omega) fun p6 n6 => ?_
      have s7 := s6.trans (Same.new n6 (.lst (cs.map V.int ++ [V.int (41 * k + 13)])))
      have m2 := (Same.new n6 (.lst (cs.map V.int ++ [V.int (41 * k + 13)]))) _ _ m1
      have np : p6 ≠ m := (ne_of_none m1 n6).symm
      walk_at "rd"
      refine ⟨m2, mk l b p6 0, rfl, (by show 4 ≤ 15; decide), ?_⟩
      rw [merge_mk]
      have old : Same H H' := s3.trans s4
      have nm0 : H m = none := old.free nm
      refine q m _ (Same.put (old.trans s7) nm0 _) nm0 ⟨l, b, 0, p6, cs ++ [41 * k + 13], upd_same, ?_, by simp, ?_, hl, b0, b1, Int.le_refl 0, by omega⟩
      · rw [upd_ne np, upd_same, List.map_append]
        rfl
      · rw [List.length_append]
        show cs.length + 1 ≤ 200
        omega
    walk_at "rd"
    refine rd_len (.inl (sqL g5)) ?_
    walk_at "rd"
    refine rd_two (fun c => ?_) (fun c => ?_)
    · walk_at "rd"
      obtain ⟨v, e, _, hm⟩ := atI_in (xs := gs.map V.int) k0 c
      obtain ⟨z, hz, rfl⟩ := List.mem_map.mp hm
      refine rd_ixL (sqL g5) e ?_
      exact rest z (pos z hz)
    · exact rd_c (rest 0 (Int.le_refl 0))
end

def spOf (K : PySem.W.Frag) : Sp := fun vs H Q _ => ∃ (m a : Addr) (n : Nat) (xs : List V), vs = [.ref m, .ref a] ∧ MAt H m n ∧ n ≤ 999999 ∧ H a = some (.lst xs) ∧ xs ≠ [] ∧ xs.length ≤ 1000 ∧
  ∀ v H', v ∈ xs → Kp m H H' → MAt H' m (n + 1) → Q v H'
section
variable {P : Program} {w : World} {K : PySem.W.Frag} {mg : Str → Option Value} {base : Heap}
theorem sc_law_of : FnScope ["m", "some"] ["m", "some"] (defScope s_law_of) := ⟨rfl, rfl, rfl, by decide +kernel, rfl, by decide +kernel, by decide +kernel⟩
theorem ok_law_of (T : Txt P K mg) {k : Nat} : FnOk P w K mg base CX0 (k + 2) T.f_law_of T.d_law_of ["m", "some"] (spOf K) := by
  refine T.F_law_of.ok sc_law_of (fun vs H Q E h => ?_) (fun cdv A outer s H vs Q E hr h => ?_)
  · obtain ⟨m, a, n, xs, rfl, _⟩ := h
    rfl
  obtain ⟨m, a, n, xs, rfl, hm, hn, ha, hx, hl, q⟩ := h
  refine ⟨_, (pss_one (ps_ret (pe_ix (ix_listK K) (pv 1) (pe_call (ok_law_draw T) hr (by rfl) T.g_law_draw T.F_law_draw.kp T.b_law_draw .nil pass0 (pa_cons (pv 0) (pa_cons (pe_callB (len_seqK K) (by rfl) T.z_len (by decide +kernel) (pa_cons (pv 1) pa_nil)) pa_nil))) (fun _ _ => rfl)))), ?_⟩
  try dsimp only [L2.cxOf, L2.Cx.nox]
  walk_at "rd"
  refine rd_len (.inl (sqL ha)) ?_
  walk_at "rd"
  have h0 : 0 < xs.length := List.length_pos_iff.mpr hx
  refine ⟨m, n, _, rfl, hm, by omega, by omega, Int.lt_of_le_of_lt (show (xs.length : Int) ≤ 1000 by omega) (by decide), fun r H' r0 r1 kp hm' => ?_⟩
  obtain ⟨v, e, _, hv⟩ := atI_in (xs := xs) r0 r1
  exact rd_ixL (sqL (hm.lst kp ha)) e (q v H' hv kp hm')
end

def spConst (K : PySem.W.Frag) : Sp := fun vs H Q _ => ∃ (i : Int) (n : Nat), vs = [.int i, .int (n : Int)] ∧ n ≤ 999 ∧
  ∀ (p : Addr) (H' : Hp), Same H H' → SqT K H' p ((i :: List.replicate n (0 : Int)).map V.int) → Q (.ref p) H'
def spOpp (K : PySem.W.Frag) : Sp := fun vs H Q _ => ∃ (a : Addr) (xs : List Int), vs = [.ref a] ∧ SqT K H a (xs.map V.int) ∧ xs.length ≤ 1000 ∧
  ∀ (p : Addr) (H' : Hp), Same H H' → SqT K H' p ((xs.map fun x => -x).map V.int) → Q (.ref p) H'
/-- 1 less a form -/
def oneLess (xs : List Int) : List Int := match xs with
  | [] => [] | x :: r => (1 - x) :: r.map fun y => -y
def spOneLess (K : PySem.W.Frag) : Sp := fun vs H Q _ => ∃ (a : Addr) (xs : List Int), vs = [.ref a] ∧ SqT K H a (xs.map V.int) ∧ xs ≠ [] ∧ xs.length ≤ 1000 ∧
  ∀ (p : Addr) (H' : Hp), Same H H' → SqT K H' p ((oneLess xs).map V.int) → Q (.ref p) H'
theorem rep_map (n : Nat) : List.replicate n (V.int 0) = (List.replicate n (0 : Int)).map V.int := (List.map_replicate ..).symm
section
variable {P : Program} {w : World} {K : PySem.W.Frag} {mg : Str → Option Value} {base : Heap}
theorem sc_constant : FnScope ["number", "count"] ["number", "count"] (defScope s_constant) := ⟨rfl, rfl, rfl, by decide +kernel, rfl, by decide +kernel, by decide +kernel⟩
theorem ok_constant (T : Txt P K mg) {k : Nat} : FnOk P w K mg base CX0 (k + 1) T.f_constant T.d_constant ["number", "count"] (spConst K) := by
  refine T.F_constant.ok sc_constant (fun vs H Q E h => ?_) (fun cdv A outer s H vs Q E hr h => ?_)
  · obtain ⟨i, n, rfl, _⟩ := h
    rfl
  obtain ⟨i, n, rfl, hn, q⟩ := h
  refine ⟨_, (pss_one (ps_ret (pe_op (op_catTK K) (pe_tup (pa_cons (pv 0) pa_nil)) (pe_op (op_repK K) (pe_tup (pa_cons pe_int pa_nil)) (pv 1))))), ?_⟩
  try dsimp only [L2.cxOf, L2.Cx.nox]
  walk_at "rd"
  refine ⟨by show 1 ≤ sizeLine; decide, fun p1 n1 => ?_⟩
  walk_at "rd"
  refine ⟨by show 1 ≤ sizeLine; decide, fun p2 n2 => ?_⟩
  walk_at "rd"
  refine rd_rep1 (sqT upd_same) (by omega) fun p3 H3 s3 h3 => ?_
  have h1 : SqT K H3 p1 [.int i] := s3.seqT ((Same.new n2 (.tup [.int 0])).seqT (sqT upd_same))
  walk_at "rd"
  refine rd_catT h1 h3 (List.cons_ne_nil _ _) (by rw [List.length_replicate]; show 1 + n ≤ 1000000; omega) fun p4 H4 s4 h4 => ?_
  walk_at "rd"
  refine q p4 H4 (((Same.new n1 _).trans (Same.new n2 _)).trans (s3.trans s4)) ?_
  rw [rep_map] at h4
  exact h4
theorem sc_opposite : FnScope ["form", "number"] ["form"] (defScope s_opposite) := ⟨rfl, rfl, rfl, by decide +kernel, rfl, by decide +kernel, by decide +kernel⟩
theorem ok_opposite (T : Txt P K mg) {k : Nat} : FnOk P w K mg base CX0 (k + 1) T.f_opposite T.d_opposite ["form"] (spOpp K) := by
  refine T.F_opposite.ok sc_opposite (fun vs H Q E h => ?_) (fun cdv A outer s H vs Q E hr h => ?_)
  · obtain ⟨a, xs, rfl, _⟩ := h
    rfl
  obtain ⟨a, xs, rfl, ha, hz, q⟩ := h
  refine ⟨_, (pss_one (ps_ret (pe_callTy (tuple_ofK K) (by rfl) T.z_tuple (by decide +kernel) (pa_cons (pe_lc (own := [("number", 1)]) (g := (gName 1)) rfl sc_opposite.nd (pi_tup (pv 0)) (blkOk_by (N := ["form", "number"]) (sc := defScope s_opposite) (by decide +kernel)) (fun _ _ _ _ _ => (pg_name (i := 1) sc_opposite.nd rfl (Or.inl rfl))) (fun _ _ _ _ _ => pts_nil) (fun _ _ _ _ _ => (pe_un un_neg (pv 1)))) pa_nil)))), ?_⟩
  try dsimp only [L2.cxOf, L2.Cx.nox]
  walk_at "rd"
  refine rd_atT ha fun p4 n4 => lc_src walk_tup (fun i => (xs.map V.int).getD i .non) ?_ (fun _ => true) (fun i => V.int (-(xs.getD i 0))) (by rw [List.length_map]; omega) n4 (fun H2 z => z.seqT ha) (fun x => rfl) ?_ ?_ ?_
  · rintro i H0 x H2 hi ⟨rfl, e⟩
    rw [List.getD_eq_getElem?_getD, e]
    exact ⟨rfl, rfl⟩
  · intro i H2 R hi z r
    exact rd_yes r
  · intro i H2 R hi hf z r
    have e : (xs.map V.int).getD i .non = V.int (xs.getD i 0) := by
      rw [List.length_map] at hi
      rw [List.getD_eq_getElem?_getD, List.getD_eq_getElem?_getD, List.getElem?_map, List.getElem?_eq_getElem hi]
      rfl
    rw [e]
    walk_at "rd"
    exact r H2 (Same.refl _)
  intro H4 s4 g4
  walk_at "rd"
  refine ⟨p4, _, rfl, .inl ⟨sqL g4, fun l nl => ?_⟩⟩
  refine q l _ (s4.trans (Same.new nl _)) (sqT ?_)
  rw [upd_same]
  have e : Evl.given (xs.map V.int).length (fun _ => true) (fun i => V.int (-(xs.getD i 0))) = (xs.map fun x => -x).map V.int := by
    unfold Evl.given
    rw [List.filter_eq_self.mpr (fun _ _ => rfl), List.length_map]
    have e2 := range_ints (xs.map fun x => -x)
    rw [List.length_map] at e2
    rw [← e2]
    refine List.map_congr_left fun i hi => ?_
    have hi' := List.mem_range.mp hi
    rw [List.getD_eq_getElem?_getD, List.getD_eq_getElem?_getD, List.getElem?_map, List.getElem?_eq_getElem hi']
    rfl
  rw [e]
theorem sc_one_less : FnScope ["form"] ["form"] (defScope s_one_less) := ⟨rfl, rfl, rfl, by decide +kernel, rfl, by decide +kernel, by decide +kernel⟩
theorem ok_one_less (T : Txt P K mg) {k : Nat} : FnOk P w K mg base CX0 (k + 2) T.f_one_less T.d_one_less ["form"] (spOneLess K) := by
  refine T.F_one_less.ok sc_one_less (fun vs H Q E h => ?_) (fun cdv A outer s H vs Q E hr h => ?_)
  · obtain ⟨a, xs, rfl, _⟩ := h
    rfl
  obtain ⟨a, xs, rfl, ha, hx, hz, q⟩ := h
  refine ⟨_, (pss_one (ps_ret (pe_op (op_catTK K) (pe_tup (pa_cons (pe_op op_sub pe_int (pe_ix (ix_tupK K) (pv 0) pe_int (fun _ _ => rfl))) pa_nil)) (pe_call (ok_opposite T) hr (by rfl) T.g_opposite T.F_opposite.kp T.b_opposite .nil pass0 (pa_cons (pe_slice (sl_tupK K) (pv 0) (po_some pe_int) po_none) pa_nil))))), ?_⟩
  try dsimp only [L2.cxOf, L2.Cx.nox]
  cases xs with
  | nil => exact absurd rfl hx
  | cons x r =>
    rw [List.length_cons] at hz
    walk_at "rd"
    refine rd_ixT ha (atI_nat (j := 0) rfl) ?_
    walk_at "rd"
    refine ⟨by show 1 ≤ sizeLine; decide, fun p1 n1 => ?_⟩
    have s1 := Same.new n1 (.tup [V.int (1 - x)])
    have h1 : SqT K (upd H p1 (.tup [V.int (1 - x)])) p1 [V.int (1 - x)] := sqT upd_same
    walk_at "rd"
    refine rd_tail (s1.seqT ha) fun p2 n2 => ?_
    walk_at "rd"
    refine ⟨p2, r, rfl, sqT upd_same, by omega, fun p3 H3 s3 h3 => ?_⟩
    refine rd_catT (s3.seqT ((Same.new n2 _).seqT h1)) h3 (List.cons_ne_nil _ _) (by rw [List.length_map, List.length_map]; show 1 + r.length ≤ 1000000; omega) fun p4 H4 s4 h4 => ?_
    exact q p4 H4 ((s1.trans (Same.new n2 _)).trans (s3.trans s4)) h4
end

/-- the question of a mark -/
def quest (k : Mk6) (xs ys : List Int) : List Int := match k with
  | .plus => List.zipWith (fun a b => a - b) (List.zipWith (fun a b => a + b) xs ys) (1 :: List.replicate (xs.length - 1) 0)
  | .times => List.zipWith (fun a b => a - b) (List.zipWith (fun a b => a + b) xs ys) (1 :: List.replicate (xs.length - 1) 0)
  | _ => List.zipWith (fun a b => a - b) xs ys
def spQuest (K : PySem.W.Frag) (C : Addr) : Sp := fun vs H Q E => ∃ (mark : Str) (a b : Addr) (xs ys : List Int), vs = [.str mark, .ref a, .ref b] ∧ SqT K H a (xs.map V.int) ∧ SqT K H b (ys.map V.int) ∧
  xs.length = ys.length ∧ xs ≠ [] ∧ xs.length ≤ 900 ∧
  ((∃ k : Mk6, mark = k.str ∧ ∀ (p : Addr) (H' : Hp), Same H H' → SqT K H' p ((quest k xs ys).map V.int) → Q (.ref p) H') ∨
    (inV (.str mark) marksV = false ∧ ∀ (d : Addr) (H' : Hp), Same H H' → H' d = some (.xd [("mark", .str mark)]) → E (.ref C) (some d) H'))
theorem rd_notIn {K : PySem.W.Frag} {H : Hp} {Q : VK} {a : Addr} {x : V} {xs : List V} (hs : SqL K H a xs ∨ SqT K H a xs) (hx : flatV x = true) (hf : xs.all flatV = true) {b : Bool} (hb : inV x xs = b) (h : Q (.bl (!b)) H) : rIn K true x (.ref a) H Q := by
  refine ⟨a, xs, rfl, hs, hx, hf, ?_⟩
  rw [hb]
  exact h
section
variable {P : Program} {w : World} {K : PySem.W.Frag} {mg : Str → Option Value} {base : Heap}
theorem sc_question_of : FnScope ["mark", "first", "second"] ["mark", "first", "second"] (defScope s_question_of) := ⟨rfl, rfl, rfl, by decide +kernel, rfl, by decide +kernel, by decide +kernel⟩
theorem ok_question_of (T : Txt P K mg) {k : Nat} : FnOk P w K mg base (L2.CX P w) (k + 3) T.f_question_of T.d_question_of ["mark", "first", "second"] (spQuest K T.C_WrongMark) := by
  refine T.F_question_of.okX sc_question_of (fun vs H Q E h => ?_) (fun cdv A outer s H vs Q E hr h => ?_)
  · obtain ⟨mark, a, b, xs, ys, rfl, _⟩ := h
    rfl
  obtain ⟨mark, a, b, xs, ys, rfl, ha, hb, hl, hx, hz, q⟩ := h
  refine ⟨_, (pss_cons (ps_if (pt_cmpR (notIn_seqK K) (pv 0) (pe_glob (v := V.ref T.a_MARKS) rfl T.c_MARKS rfl) (by rfl)) (pss_one (ps_raise rfl (takes_of rfl rfl rfl rfl) (pmk_oex T.o_WrongMark T.i_WrongMark T.t_WrongMark (ok_WrongMark_init T) hr T.b_WrongMark_init .nil pass0 (by rfl) T.m_WrongMark (pa_cons (pv 0) pa_nil)))) pss_nil)
    (pss_cons (ps_if (PW.pt (pw_or (pt_cmpR op_eq (pv 0) pe_str (by rfl)) (pw_or1 (pt_cmpR op_eq (pv 0) pe_str (by rfl))))) (pss_one (ps_ret (pe_call (ok_less T) hr (by rfl) T.g_less T.F_less.kp T.b_less .nil pass0 (pa_cons (pe_call (ok_added T) hr (by rfl) T.g_added T.F_added.kp T.b_added .nil pass0 (pa_cons (pv 1) (pa_cons (pv 2) pa_nil))) (pa_cons (pe_call (ok_constant T) hr (by rfl) T.g_constant T.F_constant.kp T.b_constant .nil pass0 (pa_cons pe_int (pa_cons (pe_op op_sub (pe_callB (len_seqK K) (by rfl) T.z_len (by decide +kernel) (pa_cons (pv 1) pa_nil)) pe_int) pa_nil))) pa_nil))))) pss_nil)
    (pss_one (ps_ret (pe_call (ok_less T) hr (by rfl) T.g_less T.F_less.kp T.b_less .nil pass0 (pa_cons (pv 1) (pa_cons (pv 2) pa_nil))))))), ?_⟩
  try dsimp only [L2.cxOf, L2.Cx.nox]
  walk_at "rd"
  rcases q with ⟨k, rfl, q⟩ | ⟨hno, q⟩
  · refine rd_notIn (.inr (T.t_MARKS H)) rfl rfl (mk6_marks k) ?_
    walk_at "rd"
    refine iteF ?_
    walk_at "rd"
    have many : ((xs.map V.int).length : Int) - 1 = ((xs.length - 1 : Nat) : Int) := by
      have := List.length_pos_iff.mpr hx
      rw [List.length_map]
      omega
    have pt : (k = .plus ∨ k = .times) → tRet (tCall (spZip K fun a b => a - b) [] E0 (tCons (tCall (spZip K fun a b => a + b) [] E0 (tCons (tVar 1) (tCons (tVar 2) tNil)))
        (tCons (tCall (spConst K) [] E0 (tCons (tC (V.int 1)) (tCons (tOp (rI0 fun i j => V.int (i - j))
          (tCB (fun xs H Q => ∃ p ys, xs = [V.ref p] ∧ (SqL K H p ys ∨ SqT K H p ys) ∧ Q (V.int ↑ys.length) H) (tCons (tVar 1) tNil)) (tC (V.int 1))) tNil))) tNil)))
        { nx := tRet (tCall (spZip K fun a b => a - b) [] E0 (tCons (tVar 1) (tCons (tVar 2) tNil))) { nx := fun x H' => Q V.non H', rt := Q }, rt := Q }
        (L2.start [Str.ofString "mark", Str.ofString "first", Str.ofString "second"] [V.str k.str, V.ref a, V.ref b]) H := by
      intro hk
      walk_at "rd"
      refine ⟨a, b, xs, ys, rfl, ha, hb, hl, by omega, fun p1 H1 s1 h1 => ?_⟩
      walk_at "rd"
      refine rd_len (.inr (s1.seqT ha)) ?_
      walk_at "rd"
      rw [many]
      refine ⟨1, xs.length - 1, rfl, by omega, fun p2 H2 s2 h2 => ?_⟩
      have l1 : (List.zipWith (fun a b => a + b) xs ys).length = xs.length := by rw [List.length_zipWith, hl, Nat.min_self]
      walk_at "rd"
      refine ⟨p1, p2, _, _, rfl, s2.seqT h1, h2, ?_, by omega, fun p3 H3 s3 h3 => q p3 H3 ((s1.trans s2).trans s3) ?_⟩
      · rw [l1, List.length_cons, List.length_replicate]
        have := List.length_pos_iff.mpr hx
        omega
      · rcases hk with rfl | rfl <;> exact h3
    refine rd_two (fun c => ?_) (fun c => ?_)
    · walk_at "rd"
      exact pt (.inl (by cases k <;> first | rfl | exact absurd c (by decide +kernel)))
    · walk_at "rd"
      refine rd_two (fun d => ?_) (fun d => ?_)
      · exact pt (.inr (by cases k <;> first | rfl | exact absurd d (by decide +kernel)))
      · walk_at "rd"
        have hk : quest k xs ys = List.zipWith (fun a b => a - b) xs ys := by cases k <;> first | rfl | exact absurd rfl c | exact absurd rfl d
        refine ⟨a, b, xs, ys, rfl, ha, hb, hl, by omega, fun p1 H1 s1 h1 => q p1 H1 s1 ?_⟩
        rw [hk]
        exact h1
  · refine rd_notIn (.inr (T.t_MARKS H)) rfl rfl hno ?_
    walk_at "rd"
    refine iteT (rd_mko ?_)
    walk_at "rd"
    exact rd_raise fun d H' s' _ h => q d H' s' h
end

def least (k : Mk6) (qs xs ys : List Int) : List Int := match k with
  | .plus => 1 :: List.replicate (xs.length - 1) 0
  | .times => qs | .and => ys | .or => xs | .leads => oneLess qs | .same => oneLess qs
def most (k : Mk6) (qs xs ys : List Int) : List Int := match k with
  | .plus => List.zipWith (fun a b => a + b) xs ys
  | .times => 0 :: List.replicate (xs.length - 1) 0
  | .leads => 1 :: List.replicate (xs.length - 1) 0
  | .and => xs | .or => ys
  | .same => List.zipWith (fun a b => a + b) (1 :: List.replicate (xs.length - 1) 0) qs
def spSide (K : PySem.W.Frag) (f : Mk6 → List Int → List Int → List Int → List Int) : Sp := fun vs H Q _ => ∃ (k : Mk6) (c a b : Addr) (qs xs ys : List Int), vs = [.str k.str, .ref c, .ref a, .ref b] ∧
  SqT K H c (qs.map V.int) ∧ SqT K H a (xs.map V.int) ∧ SqT K H b (ys.map V.int) ∧ xs.length = ys.length ∧ qs.length = xs.length ∧ xs ≠ [] ∧ xs.length ≤ 900 ∧
  ∀ (p : Addr) (H' : Hp), Same H H' → SqT K H' p ((f k qs xs ys).map V.int) → Q (.ref p) H'
section
variable {P : Program} {w : World} {K : PySem.W.Frag} {mg : Str → Option Value} {base : Heap}
theorem sc_least_form : FnScope ["mark", "question", "first", "second"] ["mark", "question", "first", "second"] (defScope s_least_form) := ⟨rfl, rfl, rfl, by decide +kernel, rfl, by decide +kernel, by decide +kernel⟩
theorem ok_least_form (T : Txt P K mg) {k : Nat} : FnOk P w K mg base CX0 (k + 3) T.f_least_form T.d_least_form ["mark", "question", "first", "second"] (spSide K least) := by
  refine T.F_least_form.ok sc_least_form (fun vs H Q E h => ?_) (fun cdv A outer s H vs Q E hr h => ?_)
  · obtain ⟨k, c, a, b, qs, xs, ys, rfl, _⟩ := h
    rfl
  obtain ⟨k, c, a, b, qs, xs, ys, rfl, hc, ha, hb, hl, hq, hx, hz, q⟩ := h
  have hx0 := List.length_pos_iff.mpr hx
  have many : ((xs.map V.int).length : Int) - 1 = ((xs.length - 1 : Nat) : Int) := by
    rw [List.length_map]
    omega
  have hqn : qs ≠ [] := by
    intro z
    rw [z, List.length_nil] at hq
    omega
  refine ⟨_, (pss_cons (ps_if (pt_cmpR op_eq (pv 0) pe_str (by rfl)) (pss_one (ps_ret (pe_call (ok_constant T) hr (by rfl) T.g_constant T.F_constant.kp T.b_constant .nil pass0 (pa_cons pe_int (pa_cons (pe_op op_sub (pe_callB (len_seqK K) (by rfl) T.z_len (by decide +kernel) (pa_cons (pv 2) pa_nil)) pe_int) pa_nil))))) pss_nil)
    (pss_cons (ps_if (pt_cmpR op_eq (pv 0) pe_str (by rfl)) (pss_one (ps_ret (pv 1))) pss_nil)
    (pss_cons (ps_if (pt_cmpR op_eq (pv 0) pe_str (by rfl)) (pss_one (ps_ret (pv 3))) pss_nil)
    (pss_cons (ps_if (pt_cmpR op_eq (pv 0) pe_str (by rfl)) (pss_one (ps_ret (pv 2))) pss_nil)
    (pss_one (ps_ret (pe_call (ok_one_less T) hr (by rfl) T.g_one_less T.F_one_less.kp T.b_one_less .nil pass0 (pa_cons (pv 1) pa_nil)))))))), ?_⟩
  try dsimp only [L2.cxOf, L2.Cx.nox]
  cases k
  · walk_at "difs"
    refine rd_len (.inr ha) ?_
    walk_at "rd"
    rw [many]
    exact ⟨1, _, rfl, by omega, fun p H' s h => q p H' s h⟩
  · walk_at "difs"
    exact q c H (Same.refl _) hc
  · walk_at "difs"
    exact ⟨c, qs, rfl, hc, hqn, by omega, fun p H' s h => q p H' s h⟩
  · walk_at "difs"
    exact q b H (Same.refl _) hb
  · walk_at "difs"
    exact q a H (Same.refl _) ha
  · walk_at "difs"
    exact ⟨c, qs, rfl, hc, hqn, by omega, fun p H' s h => q p H' s h⟩
theorem sc_most_form : FnScope ["mark", "question", "first", "second", "count"] ["mark", "question", "first", "second"] (defScope s_most_form) := ⟨rfl, rfl, rfl, by decide +kernel, rfl, by decide +kernel, by decide +kernel⟩
theorem ok_most_form (T : Txt P K mg) {k : Nat} : FnOk P w K mg base CX0 (k + 3) T.f_most_form T.d_most_form ["mark", "question", "first", "second"] (spSide K most) := by
  refine T.F_most_form.ok sc_most_form (fun vs H Q E h => ?_) (fun cdv A outer s H vs Q E hr h => ?_)
  · obtain ⟨k, c, a, b, qs, xs, ys, rfl, _⟩ := h
    rfl
  obtain ⟨k, c, a, b, qs, xs, ys, rfl, hc, ha, hb, hl, hq, hx, hz, q⟩ := h
  have hx0 := List.length_pos_iff.mpr hx
  have many : ((xs.map V.int).length : Int) - 1 = ((xs.length - 1 : Nat) : Int) := by
    rw [List.length_map]
    omega
  refine ⟨_, (pss_cons (ps_set (i := 4) sc_most_form.nd rfl (Or.inl rfl) (pe_op op_sub (pe_callB (len_seqK K) (by rfl) T.z_len (by decide +kernel) (pa_cons (pv 2) pa_nil)) pe_int))
    (pss_cons (ps_if (pt_cmpR op_eq (pv 0) pe_str (by rfl)) (pss_one (ps_ret (pe_call (ok_added T) hr (by rfl) T.g_added T.F_added.kp T.b_added .nil pass0 (pa_cons (pv 2) (pa_cons (pv 3) pa_nil))))) pss_nil)
    (pss_cons (ps_if (pt_cmpR op_eq (pv 0) pe_str (by rfl)) (pss_one (ps_ret (pe_call (ok_constant T) hr (by rfl) T.g_constant T.F_constant.kp T.b_constant .nil pass0 (pa_cons pe_int (pa_cons (pv 4) pa_nil))))) pss_nil)
    (pss_cons (ps_if (pt_cmpR op_eq (pv 0) pe_str (by rfl)) (pss_one (ps_ret (pe_call (ok_constant T) hr (by rfl) T.g_constant T.F_constant.kp T.b_constant .nil pass0 (pa_cons pe_int (pa_cons (pv 4) pa_nil))))) pss_nil)
    (pss_cons (ps_if (pt_cmpR op_eq (pv 0) pe_str (by rfl)) (pss_one (ps_ret (pv 2))) pss_nil)
    (pss_cons (ps_if (pt_cmpR op_eq (pv 0) pe_str (by rfl)) (pss_one (ps_ret (pv 3))) pss_nil)
    (pss_one (ps_ret (pe_call (ok_added T) hr (by rfl) T.g_added T.F_added.kp T.b_added .nil pass0 (pa_cons (pe_call (ok_constant T) hr (by rfl) T.g_constant T.F_constant.kp T.b_constant .nil pass0 (pa_cons pe_int (pa_cons (pv 4) pa_nil))) (pa_cons (pv 1) pa_nil))))))))))), ?_⟩
  try dsimp only [L2.cxOf, L2.Cx.nox]
  walk_at "rd"
  refine rd_len (.inr ha) ?_
  walk_at "rd"
  rw [many]
  cases k
  · walk_at "difs"
    exact ⟨a, b, xs, ys, rfl, ha, hb, hl, by omega, fun p H' s h => q p H' s h⟩
  · walk_at "difs"
    exact ⟨0, _, rfl, by omega, fun p H' s h => q p H' s h⟩
  · walk_at "difs"
    exact ⟨1, _, rfl, by omega, fun p H' s h => q p H' s h⟩
  · walk_at "difs"
    exact q a H (Same.refl _) ha
  · walk_at "difs"
    exact q b H (Same.refl _) hb
  · walk_at "difs"
    refine ⟨1, _, rfl, by omega, fun p H' s h => ?_⟩
    walk_at "rd"
    refine ⟨p, c, _, qs, rfl, h, s.seqT hc, ?_, ?_, fun p2 H2 s2 h2 => q p2 H2 (s.trans s2) h2⟩
    · rw [List.length_cons, List.length_replicate]
      omega
    · rw [List.length_cons, List.length_replicate]
      omega
theorem len_quest (k : Mk6) {xs ys : List Int} (hl : xs.length = ys.length) (hx : xs ≠ []) : (quest k xs ys).length = xs.length := by
  have := List.length_pos_iff.mpr hx
  cases k <;> (unfold quest; simp only [List.length_zipWith, List.length_cons, List.length_replicate]; omega)
def sidesV : List V := [.str "least", .str "most"]
def spBySide (K : PySem.W.Frag) (C : Addr) : Sp := fun vs H Q E => ∃ (mark side : Str) (a b : Addr) (xs ys : List Int), vs = [.str mark, .str side, .ref a, .ref b] ∧ SqT K H a (xs.map V.int) ∧ SqT K H b (ys.map V.int) ∧
  xs.length = ys.length ∧ xs ≠ [] ∧ xs.length ≤ 900 ∧
  ((∃ k : Mk6, mark = k.str ∧ side = "least" ∧ ∀ (p : Addr) (H' : Hp), Same H H' → SqT K H' p ((least k (quest k xs ys) xs ys).map V.int) → Q (.ref p) H') ∨
    (∃ k : Mk6, mark = k.str ∧ side = "most" ∧ ∀ (p : Addr) (H' : Hp), Same H H' → SqT K H' p ((most k (quest k xs ys) xs ys).map V.int) → Q (.ref p) H') ∨
    (∃ k : Mk6, mark = k.str ∧ inV (.str side) sidesV = false ∧ ∀ (d : Addr) (H' : Hp), Same H H' → H' d = some (.xd [("mark", .str side)]) → E (.ref C) (some d) H') ∨
    (inV (.str mark) marksV = false ∧ ∀ (d : Addr) (H' : Hp), Same H H' → H' d = some (.xd [("mark", .str mark)]) → E (.ref C) (some d) H'))
theorem sc_form_by_side : FnScope ["mark", "side", "first", "second", "question"] ["mark", "side", "first", "second"] (defScope s_form_by_side) := ⟨rfl, rfl, rfl, by decide +kernel, rfl, by decide +kernel, by decide +kernel⟩
theorem ok_form_by_side (T : Txt P K mg) {k : Nat} : FnOk P w K mg base (L2.CX P w) (k + 4) T.f_form_by_side T.d_form_by_side ["mark", "side", "first", "second"] (spBySide K T.C_WrongMark) := by
  refine T.F_form_by_side.okX sc_form_by_side (fun vs H Q E h => ?_) (fun cdv A outer s H vs Q E hr h => ?_)
  · obtain ⟨mark, side, a, b, xs, ys, rfl, _⟩ := h
    rfl
  obtain ⟨mark, side, a, b, xs, ys, rfl, ha, hb, hl, hx, hz, q⟩ := h
  refine ⟨_, (pss_cons (ps_set (i := 4) sc_form_by_side.nd rfl (Or.inl rfl) (pe_call (ok_question_of T) hr (by rfl) T.g_question_of T.F_question_of.kp T.b_question_of .nil (passes_call (takes_of rfl rfl rfl rfl) fun _ _ _ _ h => h) (pa_cons (pv 0) (pa_cons (pv 2) (pa_cons (pv 3) pa_nil)))))
    (pss_cons (ps_if (pt_cmpR (notIn_seqK K) (pv 1) (pe_glob (v := V.ref T.a_SIDES) rfl T.c_SIDES rfl) (by rfl)) (pss_one (ps_raise rfl (takes_of rfl rfl rfl rfl) (pmk_oex T.o_WrongMark T.i_WrongMark T.t_WrongMark (ok_WrongMark_init T) hr T.b_WrongMark_init .nil pass0 (by rfl) T.m_WrongMark (pa_cons (pv 1) pa_nil)))) pss_nil)
    (pss_cons (ps_if (pt_cmpR op_eq (pv 1) pe_str (by rfl)) (pss_one (ps_ret (pe_call (ok_least_form T) hr (by rfl) T.g_least_form T.F_least_form.kp T.b_least_form .nil pass0 (pa_cons (pv 0) (pa_cons (pv 4) (pa_cons (pv 2) (pa_cons (pv 3) pa_nil))))))) pss_nil)
    (pss_one (ps_ret (pe_call (ok_most_form T) hr (by rfl) T.g_most_form T.F_most_form.kp T.b_most_form .nil pass0 (pa_cons (pv 0) (pa_cons (pv 4) (pa_cons (pv 2) (pa_cons (pv 3) pa_nil)))))))))), ?_⟩
  try dsimp only [L2.cxOf, L2.Cx.nox]
  walk_at "rd"
  rcases q with ⟨k, rfl, rfl, q⟩ | ⟨k, rfl, rfl, q⟩ | ⟨k, rfl, hno, q⟩ | ⟨hno, q⟩
  · refine ⟨_, a, b, xs, ys, rfl, ha, hb, hl, hx, hz, .inl ⟨k, rfl, fun p H1 s1 h1 => ?_⟩⟩
    walk_at "rd"
    refine rd_notIn (.inr (T.t_SIDES H1)) rfl rfl (b := true) (by decide +kernel) ?_
    walk_at "rd"
    refine iteF ?_
    walk_at "difs"
    exact ⟨k, p, a, b, _, xs, ys, rfl, h1, s1.seqT ha, s1.seqT hb, hl, len_quest k hl hx, hx, hz, fun p2 H2 s2 h2 => q p2 H2 (s1.trans s2) h2⟩
  · refine ⟨_, a, b, xs, ys, rfl, ha, hb, hl, hx, hz, .inl ⟨k, rfl, fun p H1 s1 h1 => ?_⟩⟩
    walk_at "rd"
    refine rd_notIn (.inr (T.t_SIDES H1)) rfl rfl (b := true) (by decide +kernel) ?_
    walk_at "rd"
    refine iteF ?_
    walk_at "difs"
    exact ⟨k, p, a, b, _, xs, ys, rfl, h1, s1.seqT ha, s1.seqT hb, hl, len_quest k hl hx, hx, hz, fun p2 H2 s2 h2 => q p2 H2 (s1.trans s2) h2⟩
  · refine ⟨_, a, b, xs, ys, rfl, ha, hb, hl, hx, hz, .inl ⟨k, rfl, fun p H1 s1 h1 => ?_⟩⟩
    walk_at "rd"
    refine rd_notIn (.inr (T.t_SIDES H1)) rfl rfl hno ?_
    walk_at "rd"
    refine iteT (rd_mko ?_)
    walk_at "rd"
    exact rd_raise fun d H' s' _ h => q d H' (s1.trans s') h
  · exact ⟨_, a, b, xs, ys, rfl, ha, hb, hl, hx, hz, .inr ⟨hno, fun d H' s' h => q d H' s' h⟩⟩
end

/-! ### the law's own numbers -/
theorem MAt.seqT {H H' : Hp} {m a : Addr} {n : Nat} {xs : List V} (h : MAt H m n) (k : Kp m H H') (e : SqT K H a xs) : SqT K H' a xs := by
  obtain ⟨kvs, hm⟩ := h.dict
  rcases e with (e | ⟨o, e⟩) | e
  · exact .inl (.inl (k.get e hm (fun z => nomatch z)))
  · exact .inl (.inr ⟨o, k.get e hm (fun z => nomatch z)⟩)
  · exact .inr e
def dot (xs ys : List Int) : Int := (List.zipWith (fun a b => a * b) xs ys).sum
def Low (B : Nat) (xs : List Int) : Prop := ∀ x ∈ xs, x.natAbs ≤ B
def spOn (K : PySem.W.Frag) : Sp := fun vs H Q _ => ∃ (a b : Addr) (xs ys : List Int), vs = [.ref a, .ref b] ∧ SqT K H a (xs.map V.int) ∧ SqT K H b (ys.map V.int) ∧ xs.length = ys.length ∧ xs.length ≤ 1000 ∧
  Low (10 ^ 39) xs ∧ Low (10 ^ 39) ys ∧ ∀ H' : Hp, Same H H' → Q (.int (dot xs ys)) H'
def spForm (K : PySem.W.Frag) : Sp := fun vs H Q _ => ∃ (m : Addr) (c size great : Nat), vs = [.ref m, .int (size : Int), .int (great : Int)] ∧ MAt H m c ∧ c + size + 1 ≤ 900000 ∧ size ≤ 100 ∧ great ≤ 10 ^ 30 ∧
  ∀ (p : Addr) (xs : List Int) (H' : Hp), Kp m H H' → MAt H' m (c + size + 1) → SqT K H' p (xs.map V.int) → xs.length = size + 1 → Low great xs → Q (.ref p) H'
def spWholeI : Sp := fun vs H Q _ => ∃ i : Int, vs = [.int i] ∧ Q (.bl true) H
def imin (i j : Int) : Int := if j < i then j else i
def imax (i j : Int) : Int := if j > i then j else i
def iabs (i : Int) : Int := if i < 0 then -i else i
def given (k : Mk6) (a b w : Int) : Int := match k with
  | .plus => imin w (a + b) | .times => imax 0 (a + b - w) | .leads => imin w (w - a + b) | .and => imin a b | .or => imax a b | .same => w - iabs (a - b)
def spGiven : Sp := fun vs H Q _ => ∃ (k : Mk6) (a b w : Int), vs = [.str k.str, .int a, .int b, .int w] ∧ ∀ H' : Hp, Same H H' → Q (.int (given k a b w)) H'
section
variable {P : Program} {w : World} {K : PySem.W.Frag} {mg : Str → Option Value} {base : Heap}
theorem sc_law_whole : FnScope ["value"] ["value"] (defScope s_law_whole) := ⟨rfl, rfl, rfl, by decide +kernel, rfl, by decide +kernel, by decide +kernel⟩
theorem ok_law_whole (T : Txt P K mg) {k : Nat} : FnOk P w K mg base CX0 (k + 1) T.f_law_whole T.d_law_whole ["value"] spWholeI := by
  refine T.F_law_whole.ok sc_law_whole (fun vs H Q E h => ?_) (fun cdv A outer s H vs Q E hr h => ?_)
  · obtain ⟨i, rfl, _⟩ := h
    rfl
  obtain ⟨i, rfl, q⟩ := h
  refine ⟨_, (pss_one (ps_ret (pe_and (pe_callB (isiK K) (by rfl) T.z_isinstance (by decide +kernel) (pa_cons (pv 0) (pa_cons (pe_bltn (v := V.ty "int") (by rfl) T.z_int (by decide +kernel) rfl) pa_nil))) (pe_one (pe_not (pe_callB (isiK K) (by rfl) T.z_isinstance (by decide +kernel) (pa_cons (pv 0) (pa_cons (pe_bltn (v := V.ty "bool") (by rfl) T.z_bool (by decide +kernel) rfl) pa_nil)))))))), ?_⟩
  try dsimp only [L2.cxOf, L2.Cx.nox]
  walk_at "rd"
  refine rd_isi (.base (.int i)) (a := "int") (b := true) (by decide +kernel) ?_
  walk_at "rd"
  refine iteT ?_
  walk_at "rd"
  refine rd_isi (.base (.int i)) (a := "int") (b := false) (by decide +kernel) ?_
  walk_at "rd"
  exact q
theorem sc_law_on : FnScope ["form", "spot", "part", "number"] ["form", "spot"] (defScope s_law_on) := ⟨rfl, rfl, rfl, by decide +kernel, rfl, by decide +kernel, by decide +kernel⟩
theorem ok_law_on (T : Txt P K mg) {k : Nat} : FnOk P w K mg base CX0 (k + 1) T.f_law_on T.d_law_on ["form", "spot"] (spOn K) := by
  refine T.F_law_on.ok sc_law_on (fun vs H Q E h => ?_) (fun cdv A outer s H vs Q E hr h => ?_)
  · obtain ⟨a, b, xs, ys, rfl, _⟩ := h
    rfl
  obtain ⟨a, b, xs, ys, rfl, ha, hb, hl, hz, lx, ly, q⟩ := h
  refine ⟨_, (pss_one (ps_ret (pe_callB (sumK K) (by rfl) T.z_sum (by decide +kernel) (pa_cons (pe_lc (own := [("part", 2), ("number", 3)]) (g := (gTup K 2 (gCons (gName 2) (gCons (gName 3) gNil)))) rfl sc_law_on.nd (RZ.pi_zipA (by rfl) T.z_zip (pa_cons (pv 0) (pa_cons (pv 1) pa_nil))) (blkOk_by (N := ["form", "spot", "part", "number"]) (sc := defScope s_law_on) (by decide +kernel)) (fun _ _ _ _ _ => (pg_tup rfl (pgs_cons (pg_name (i := 2) sc_law_on.nd rfl (Or.inl rfl)) (pgs_cons (pg_name (i := 3) sc_law_on.nd rfl (Or.inl rfl)) pgs_nil)))) (fun _ _ _ _ _ => pts_nil) (fun _ _ _ _ _ => (pe_op op_mulB (pv 2) (pv 3)))) pa_nil)))), ?_⟩
  try dsimp only [L2.cxOf, L2.Cx.nox]
  walk_at "rd"
  refine rd_atZ ha hb fun p np => lc_zip (fun i => V.int ((List.zipWith (fun a b => a * b) xs ys).getD i 0)) (by rw [List.length_map, List.length_map]; exact hl) (by rw [List.length_map]; omega) np ha hb (fun x y => rfl) ?_ fun H' s' g => ?_
  · intro i x y H' R hx hy z r
    obtain ⟨x', rfl⟩ := int_at hx
    obtain ⟨y', rfl⟩ := int_at hy
    have b1 : x'.natAbs < 10 ^ 40 := Nat.lt_of_le_of_lt (lx x' (List.mem_of_getElem? (int_at' hx))) (by decide)
    have b2 : y'.natAbs < 10 ^ 40 := Nat.lt_of_le_of_lt (ly y' (List.mem_of_getElem? (int_at' hy))) (by decide)
    walk_at "rd"
    refine rd_i (mulB_ok b1 b2) ?_
    have e := zip_at (fun a b => a * b) hx hy
    have r' := r H' (Same.refl _)
    rw [e] at r'
    exact r'
  · walk_at "rd"
    refine ⟨p, List.zipWith (fun a b => a * b) xs ys, rfl, sqL ?_, q H' s'⟩
    rw [g, List.length_map, range_zip _ hl]
theorem sc_law_form : FnScope ["m", "size", "great", "k"] ["m", "size", "great"] (defScope s_law_form) := ⟨rfl, rfl, rfl, by decide +kernel, rfl, by decide +kernel, by decide +kernel⟩
theorem ok_law_form (T : Txt P K mg) {k : Nat} : FnOk P w K mg base CX0 (k + 2) T.f_law_form T.d_law_form ["m", "size", "great"] (spForm K) := by
  refine T.F_law_form.ok sc_law_form (fun vs H Q E h => ?_) (fun cdv A outer s H vs Q E hr h => ?_)
  · obtain ⟨m, c, size, great, rfl, _⟩ := h
    rfl
  obtain ⟨m, c, size, great, rfl, hm, hc, hz, hg, q⟩ := h
  refine ⟨_, (pss_one (ps_ret (pe_callTy (tuple_ofK K) (by rfl) T.z_tuple (by decide +kernel) (pa_cons (pe_lc (own := [("k", 3)]) (g := (gName 3)) rfl sc_law_form.nd (pi_range1 rfl T.z_range (pa_cons (pe_op op_add (pv 1) pe_int) pa_nil)) (blkOk_by (N := ["m", "size", "great", "k"]) (sc := defScope s_law_form) (by decide +kernel)) (fun _ _ _ _ _ => (pg_name (i := 3) sc_law_form.nd rfl (Or.inl rfl))) (fun _ _ _ _ _ => pts_nil) (fun _ _ _ _ _ => (pe_op op_sub (pe_call (ok_law_drawC T) hr (by rfl) T.g_law_draw T.F_law_draw.kp T.b_law_draw .nil pass0 (pa_cons (pv 0) (pa_cons (pe_op op_add (pe_op op_mulB pe_int (pv 2)) pe_int) pa_nil))) (pv 2)))) pa_nil)))), ?_⟩
  try dsimp only [L2.cxOf, L2.Cx.nox]
  walk_at "rd"
  obtain ⟨cc, hcc, o, hco⟩ := hm.cel
  obtain ⟨kvs, hmd⟩ := hm.dict
  have szn : ((size : Int) + 1).toNat = size + 1 := by omega
  refine rd_atR (by omega) (by omega) fun p np => lc_it walk_range (fun i H' => ∃ xs : List Int, xs.length = i ∧ Low great xs ∧ Kp m H H' ∧ MAt H' m (c + i) ∧ Cel H' m cc ∧ H' p = some (.lst (xs.map V.int))) ?_ (fun i H' _ _ => trivial) ?_ ?_
  · refine ⟨[], rfl, (fun x h => nomatch h), Kp.new np _, hm.same (Same.new np _), ?_, upd_same⟩
    obtain ⟨l, s, q, e⟩ := hcc
    exact ⟨l, s, q, Same.new np _ _ _ e⟩
  · rintro i x H0 H1 hi ⟨xs, hxl, low, kp, mat, cel, hp⟩ ⟨rfl, rfl⟩
    rw [szn] at hi
    refine ⟨rfl, ?_⟩
    refine rd_yes (iteT ?_)
    walk_at "rd"
    refine rd_i (mulB_ok (by decide) (Nat.lt_of_le_of_lt (show (great : Int).natAbs ≤ 10 ^ 30 from hg) (by decide))) ?_
    walk_at "rd"
    refine ⟨m, c + i, 2 * (great : Int) + 1, rfl, mat, by omega, by omega, Int.lt_of_le_of_lt (show 2 * (great : Int) + 1 ≤ 2 * 10 ^ 30 + 1 by omega) (by decide), fun r H2 r0 r1 k2 m2 c2 => ?_⟩
    walk_at "rd"
    have hp2 := mat.lst k2 hp
    refine ⟨_, hp2, by rw [List.length_map, sizeLine_eq]; omega, xs ++ [r - great], ?_, ?_, ?_, ?_, ?_, ?_⟩
    · rw [List.length_append, hxl]
      rfl
    · intro y hy
      rcases List.mem_append.mp hy with hy | hy
      · exact low y hy
      · obtain rfl := List.mem_singleton.mp hy
        omega
    · exact (kp.trans k2).put' np _
    · refine m2.upd (c2 _ cel) (fun z => ?_) (fun z => ?_) _
      · subst z
        rw [np] at hmd
        cases hmd
      · subst z
        rw [np] at hco
        cases hco
    · obtain ⟨l, s, q, e⟩ := c2 _ cel
      refine ⟨l, s, q, ?_⟩
      rw [upd_ne (fun z => ?_)]
      · exact e
      · subst z
        rw [np] at hmd
        cases hmd
    · rw [upd_same, List.map_append]
      rfl
  · rintro H1 ⟨xs, hxl, low, kp, mat, cel, hp⟩
    rw [szn] at hxl mat
    walk_at "rd"
    refine ⟨p, _, rfl, .inl ⟨sqL hp, fun l nl => ?_⟩⟩
    exact q l xs _ (kp.trans (Kp.new nl _)) (mat.same (Same.new nl _)) (sqT upd_same) hxl low
theorem sc_law_given : FnScope ["mark", "one", "two", "whole"] ["mark", "one", "two", "whole"] (defScope s_law_given) := ⟨rfl, rfl, rfl, by decide +kernel, rfl, by decide +kernel, by decide +kernel⟩
theorem ok_law_given (T : Txt P K mg) {k : Nat} : FnOk P w K mg base CX0 (k + 1) T.f_law_given T.d_law_given ["mark", "one", "two", "whole"] spGiven := by
  refine T.F_law_given.ok sc_law_given (fun vs H Q E h => ?_) (fun cdv A outer s H vs Q E hr h => ?_)
  · obtain ⟨k, a, b, w, rfl, _⟩ := h
    rfl
  obtain ⟨k, a, b, w, rfl, q⟩ := h
  refine ⟨_, (pss_cons (ps_if (pt_cmpR op_eq (pv 0) pe_str (by rfl)) (pss_one (ps_ret (pe_callB (call_min2 rfl) (by rfl) T.z_min (by decide +kernel) (pa_cons (pv 3) (pa_cons (pe_op op_add (pv 1) (pv 2)) pa_nil))))) pss_nil)
    (pss_cons (ps_if (pt_cmpR op_eq (pv 0) pe_str (by rfl)) (pss_one (ps_ret (pe_callB (call_max2 rfl) (by rfl) T.z_max (by decide +kernel) (pa_cons pe_int (pa_cons (pe_op op_sub (pe_op op_add (pv 1) (pv 2)) (pv 3)) pa_nil))))) pss_nil)
    (pss_cons (ps_if (pt_cmpR op_eq (pv 0) pe_str (by rfl)) (pss_one (ps_ret (pe_callB (call_min2 rfl) (by rfl) T.z_min (by decide +kernel) (pa_cons (pv 3) (pa_cons (pe_op op_add (pe_op op_sub (pv 3) (pv 1)) (pv 2)) pa_nil))))) pss_nil)
    (pss_cons (ps_if (pt_cmpR (in_seqK K) (pv 0) (pe_tup (pa_cons pe_str (pa_cons pe_str pa_nil))) (by rfl)) (pss_one (ps_ret (pe_ifExp (pt_cmpR op_eq (pv 0) pe_str (by rfl)) (pe_callB (call_min2 rfl) (by rfl) T.z_min (by decide +kernel) (pa_cons (pv 1) (pa_cons (pv 2) pa_nil))) (pe_callB (call_max2 rfl) (by rfl) T.z_max (by decide +kernel) (pa_cons (pv 1) (pa_cons (pv 2) pa_nil)))))) pss_nil)
    (pss_one (ps_ret (pe_op op_sub (pv 3) (pe_callB call_abs (by rfl) T.z_abs (by decide +kernel) (pa_cons (pe_op op_sub (pv 1) (pv 2)) pa_nil))))))))), ?_⟩
  try dsimp only [L2.cxOf, L2.Cx.nox]
  cases k
  · walk_at "difs"
    exact q H (Same.refl _)
  · walk_at "difs"
    exact q H (Same.refl _)
  · walk_at "difs"
    exact q H (Same.refl _)
  · walk_at "difs"
    refine ⟨by show 2 ≤ sizeLine; decide, fun p np => ?_⟩
    refine rd_in (.inr (sqT upd_same)) rfl rfl (b := true) (by decide +kernel) ?_
    walk_at "rd"
    refine iteT ?_
    walk_at "difs"
    exact q _ (Same.new np _)
  · walk_at "difs"
    refine ⟨by show 2 ≤ sizeLine; decide, fun p np => ?_⟩
    refine rd_in (.inr (sqT upd_same)) rfl rfl (b := true) (by decide +kernel) ?_
    walk_at "rd"
    refine iteT ?_
    walk_at "difs"
    exact q _ (Same.new np _)
  · walk_at "difs"
    refine ⟨by show 2 ≤ sizeLine; decide, fun p np => ?_⟩
    refine rd_in (.inr (sqT upd_same)) rfl rfl (b := false) (by decide +kernel) ?_
    walk_at "rd"
    refine iteF ?_
    walk_at "difs"
    refine ⟨_, rfl, ?_⟩
    walk_at "rd"
    exact q _ (Same.new np _)
end

theorem oneLess_zip (qs : List Int) : ∀ n, qs.length = n + 1 → oneLess qs = List.zipWith (fun a b => a - b) (1 :: List.replicate n 0) qs := by
  intro n h
  cases qs with
  | nil => cases h
  | cons x r =>
    have hr : r.length = n := by simpa using h
    show (1 - x) :: r.map (fun y => -y) = (1 - x) :: List.zipWith (fun a b => a - b) (List.replicate n 0) r
    congr 1
    clear h
    induction r generalizing n with
    | nil => subst hr; rfl
    | cons y s ih =>
      subst hr
      show (-y) :: s.map (fun y => -y) = (0 - y) :: List.zipWith (fun a b => a - b) (List.replicate s.length 0) s
      rw [ih s.length rfl, Int.zero_sub]
theorem zeros_zip (n : Nat) : List.zipWith (fun a b => a - b) (1 :: List.replicate n (0 : Int)) (1 :: List.replicate n 0) = 0 :: List.replicate n 0 := by
  show (1 - 1 : Int) :: List.zipWith (fun a b => a - b) (List.replicate n 0) (List.replicate n 0) = 0 :: List.replicate n 0
  congr 1
  induction n with
  | zero => rfl
  | succ n ih =>
    show (0 - 0 : Int) :: List.zipWith (fun a b => a - b) (List.replicate n 0) (List.replicate n 0) = 0 :: List.replicate n 0
    rw [ih]
    rfl
def spAsk (K : PySem.W.Frag) : Sp := fun vs H Q _ => ∃ (k : Mk6) (a b : Addr) (xs ys : List Int), vs = [.str k.str, .ref a, .ref b] ∧ SqT K H a (xs.map V.int) ∧ SqT K H b (ys.map V.int) ∧ xs.length = ys.length ∧ xs ≠ [] ∧ xs.length ≤ 900 ∧
  ∀ (p q1 q2 q3 : Addr) (H' : Hp), Same H H' → H' p = some (.tup [.ref q1, .ref q2, .ref q3]) → SqT K H' q1 ((quest k xs ys).map V.int) → SqT K H' q2 ((least k (quest k xs ys) xs ys).map V.int) → SqT K H' q3 ((most k (quest k xs ys) xs ys).map V.int) → Q (.ref p) H'
section
variable {P : Program} {w : World} {K : PySem.W.Frag} {mg : Str → Option Value} {base : Heap}
theorem sc_law_ask : FnScope ["mark", "one", "two", "full", "added_v", "less_v", "part", "other"] ["mark", "one", "two"] (defScope s_law_ask) := ⟨rfl, rfl, rfl, by decide +kernel, rfl, by decide +kernel, by decide +kernel⟩
theorem ok_law_ask (T : Txt P K mg) {k : Nat} : FnOk P w K mg base CX0 (k + 2) T.f_law_ask T.d_law_ask ["mark", "one", "two"] (spAsk K) := by
  refine T.F_law_ask.ok sc_law_ask (fun vs H Q E h => ?_) (fun cdv A outer s H vs Q E hr h => ?_)
  · obtain ⟨k, a, b, xs, ys, rfl, _⟩ := h
    rfl
  obtain ⟨k, a, b, xs, ys, rfl, ha, hb, hl, hx, hz, q⟩ := h
  refine ⟨_, (pss_cons (ps_set (i := 3) sc_law_ask.nd rfl (Or.inl rfl) (pe_callTy (tuple_ofK K) (by rfl) T.z_tuple (by decide +kernel) (pa_cons (pe_op op_cat (pe_lst (pa_cons pe_int pa_nil)) (pe_lc (own := [("part", 6)]) (g := (gName 6)) rfl sc_law_ask.nd (pi_tup (pe_slice (sl_tupK K) (pv 1) (po_some pe_int) po_none)) (blkOk_by (N := ["mark", "one", "two", "full", "added_v", "less_v", "part", "other"]) (sc := defScope s_law_ask) (by decide +kernel)) (fun _ _ _ _ _ => (pg_name (i := 6) sc_law_ask.nd rfl (Or.inl rfl))) (fun _ _ _ _ _ => pts_nil) (fun _ _ _ _ _ => pe_int))) pa_nil)))
    (pss_cons (ps_set (i := 4) sc_law_ask.nd rfl (Or.inl rfl) (pe_callTy (tuple_ofK K) (by rfl) T.z_tuple (by decide +kernel) (pa_cons (pe_lc (own := [("part", 6), ("other", 7)]) (g := (gTup K 2 (gCons (gName 6) (gCons (gName 7) gNil)))) rfl sc_law_ask.nd (RZ.pi_zipA (by rfl) T.z_zip (pa_cons (pv 1) (pa_cons (pv 2) pa_nil))) (blkOk_by (N := ["mark", "one", "two", "full", "added_v", "less_v", "part", "other"]) (sc := defScope s_law_ask) (by decide +kernel)) (fun _ _ _ _ _ => (pg_tup rfl (pgs_cons (pg_name (i := 6) sc_law_ask.nd rfl (Or.inl rfl)) (pgs_cons (pg_name (i := 7) sc_law_ask.nd rfl (Or.inl rfl)) pgs_nil)))) (fun _ _ _ _ _ => pts_nil) (fun _ _ _ _ _ => (pe_op op_add (pv 6) (pv 7)))) pa_nil)))
    (pss_cons (ps_set (i := 5) sc_law_ask.nd rfl (Or.inl rfl) (pe_call (ok_law_less T) hr (by rfl) T.g_law_less T.F_law_less.kp T.b_law_less .nil pass0 (pa_cons (pv 1) (pa_cons (pv 2) pa_nil))))
    (pss_cons (ps_if (pt_cmpR op_eq (pv 0) pe_str (by rfl)) (pss_one (ps_ret (pe_tup (pa_cons (pe_call (ok_law_less T) hr (by rfl) T.g_law_less T.F_law_less.kp T.b_law_less .nil pass0 (pa_cons (pv 4) (pa_cons (pv 3) pa_nil))) (pa_cons (pv 3) (pa_cons (pv 4) pa_nil)))))) pss_nil)
    (pss_cons (ps_if (pt_cmpR op_eq (pv 0) pe_str (by rfl)) (pss_one (ps_ret (pe_tup (pa_cons (pe_call (ok_law_less T) hr (by rfl) T.g_law_less T.F_law_less.kp T.b_law_less .nil pass0 (pa_cons (pv 4) (pa_cons (pv 3) pa_nil))) (pa_cons (pe_call (ok_law_less T) hr (by rfl) T.g_law_less T.F_law_less.kp T.b_law_less .nil pass0 (pa_cons (pv 4) (pa_cons (pv 3) pa_nil))) (pa_cons (pe_call (ok_law_less T) hr (by rfl) T.g_law_less T.F_law_less.kp T.b_law_less .nil pass0 (pa_cons (pv 3) (pa_cons (pv 3) pa_nil))) pa_nil)))))) pss_nil)
    (pss_cons (ps_if (pt_cmpR op_eq (pv 0) pe_str (by rfl)) (pss_one (ps_ret (pe_tup (pa_cons (pv 5) (pa_cons (pe_call (ok_law_less T) hr (by rfl) T.g_law_less T.F_law_less.kp T.b_law_less .nil pass0 (pa_cons (pv 3) (pa_cons (pv 5) pa_nil))) (pa_cons (pv 3) pa_nil)))))) pss_nil)
    (pss_cons (ps_if (pt_cmpR op_eq (pv 0) pe_str (by rfl)) (pss_one (ps_ret (pe_tup (pa_cons (pv 5) (pa_cons (pv 2) (pa_cons (pv 1) pa_nil)))))) pss_nil)
    (pss_cons (ps_if (pt_cmpR op_eq (pv 0) pe_str (by rfl)) (pss_one (ps_ret (pe_tup (pa_cons (pv 5) (pa_cons (pv 1) (pa_cons (pv 2) pa_nil)))))) pss_nil)
    (pss_one (ps_ret (pe_tup (pa_cons (pv 5) (pa_cons (pe_call (ok_law_less T) hr (by rfl) T.g_law_less T.F_law_less.kp T.b_law_less .nil pass0 (pa_cons (pv 3) (pa_cons (pv 5) pa_nil))) (pa_cons (pe_callTy (tuple_ofK K) (by rfl) T.z_tuple (by decide +kernel) (pa_cons (pe_lc (own := [("part", 6), ("other", 7)]) (g := (gTup K 2 (gCons (gName 6) (gCons (gName 7) gNil)))) rfl sc_law_ask.nd (RZ.pi_zipA (by rfl) T.z_zip (pa_cons (pv 3) (pa_cons (pv 5) pa_nil))) (blkOk_by (N := ["mark", "one", "two", "full", "added_v", "less_v", "part", "other"]) (sc := defScope s_law_ask) (by decide +kernel)) (fun _ _ _ _ _ => (pg_tup rfl (pgs_cons (pg_name (i := 6) sc_law_ask.nd rfl (Or.inl rfl)) (pgs_cons (pg_name (i := 7) sc_law_ask.nd rfl (Or.inl rfl)) pgs_nil)))) (fun _ _ _ _ _ => pts_nil) (fun _ _ _ _ _ => (pe_op op_add (pv 6) (pv 7)))) pa_nil)) pa_nil)))))))))))))), ?_⟩
  try dsimp only [L2.cxOf, L2.Cx.nox]
  obtain ⟨x, r, rfl⟩ : ∃ x r, xs = x :: r := by
    cases xs with
    | nil => exact absurd rfl hx
    | cons x r => exact ⟨x, r, rfl⟩
  have hrl : r.length ≤ 900 := by
    rw [List.length_cons] at hz
    omega
  have lx1 : (x :: r).length - 1 = r.length := by rw [List.length_cons, Nat.add_sub_cancel]
  walk_at "rd"
  refine ⟨by show 1 ≤ sizeLine; decide, fun p1 n1 => ?_⟩
  have s1 := Same.new n1 (.lst [V.int 1])
  have h1 : (upd H p1 (.lst [V.int 1])) p1 = some (.lst [V.int 1]) := upd_same
  walk_at "rd"
  refine rd_tail (s1.seqT ha) fun p2 n2 => ?_
  have s2 := s1.trans (Same.new n2 (.tup (r.map V.int)))
  have h12 := (Same.new n2 (.tup (r.map V.int))) _ _ h1
  have h2 : (upd (upd H p1 (.lst [V.int 1])) p2 (.tup (r.map V.int))) p2 = some (.tup (r.map V.int)) := upd_same
  change ∃ _, _
  generalize upd (upd H p1 (.lst [V.int 1])) p2 (.tup (r.map V.int)) = H2 at s2 h12 h2
  refine rd_atT (sqT h2) fun p3 n3 => lc_src walk_tup (fun i => (r.map V.int).getD i .non) ?_ (fun _ => true) (fun _ => V.int 0) (by rw [List.length_map]; omega) n3 (fun H3 z => sqT (z _ _ h2)) (fun x => rfl) ?_ ?_ ?_
  · rintro i H0 y H3 hi ⟨rfl, e⟩
    rw [List.getD_eq_getElem?_getD, e]
    exact ⟨rfl, rfl⟩
  · intro i H3 R hi z r
    exact rd_yes r
  · intro i H3 R hi hf z r
    walk_at "rd"
    exact r H3 (Same.refl _)
  intro H3 s3 g3
  have e3 : Evl.given (r.map V.int).length (fun _ => true) (fun _ => V.int 0) = (List.replicate r.length (0 : Int)).map V.int := by
    unfold Evl.given
    rw [List.filter_eq_self.mpr (fun _ _ => rfl), List.length_map, List.map_replicate]
    exact List.ext_getElem (by simp) (by simp)
  rw [e3] at g3
  refine rd_cat (s3 _ _ h12) g3 (by rw [List.length_map, List.length_replicate]; show 1 + r.length ≤ 1000000; omega) fun p4 n4 => ?_
  walk_at "rd"
  refine ⟨p4, _, rfl, .inl ⟨sqL upd_same, fun fu nfu => ?_⟩⟩
  have s5 := ((s2.trans s3).trans (Same.new n4 (.lst ([V.int 1] ++ (List.replicate r.length (0 : Int)).map V.int)))).trans (Same.new nfu (.tup ([V.int 1] ++ (List.replicate r.length (0 : Int)).map V.int)))
  have h5 : SqT K (upd (upd H3 p4 (.lst ([V.int 1] ++ (List.replicate r.length (0 : Int)).map V.int))) fu (.tup ([V.int 1] ++ (List.replicate r.length (0 : Int)).map V.int))) fu ((1 :: List.replicate r.length (0 : Int)).map V.int) := sqT upd_same
  generalize upd (upd H3 p4 (.lst ([V.int 1] ++ (List.replicate r.length (0 : Int)).map V.int))) fu (.tup ([V.int 1] ++ (List.replicate r.length (0 : Int)).map V.int)) = H5 at s5 h5
  have ha5 := s5.seqT ha
  have hb5 := s5.seqT hb
  walk_at "rd"
  refine rd_atZ ha5 hb5 fun p6 n6 => lc_zip (fun i => V.int ((List.zipWith (fun a b => a + b) (x :: r) ys).getD i 0)) (by rw [List.length_map, List.length_map]; exact hl) (by rw [List.length_map]; omega) n6 ha5 hb5 (fun x y => rfl) ?_ fun H6 s6 g6 => ?_
  · intro i y z H' R hy hz z' r
    obtain ⟨y', rfl⟩ := int_at hy
    obtain ⟨z', rfl⟩ := int_at hz
    walk_at "rd"
    have e := zip_at (fun a b => a + b) hy hz
    have r' := r H' (Same.refl _)
    rw [e] at r'
    exact r'
  rw [List.length_map, range_zip _ hl] at g6
  walk_at "rd"
  refine ⟨p6, _, rfl, .inl ⟨sqL g6, fun ad nad => ?_⟩⟩
  have s7 := (s5.trans s6).trans (Same.new nad (.tup ((List.zipWith (fun a b => a + b) (x :: r) ys).map V.int)))
  have h57 := (s6.trans (Same.new nad (.tup ((List.zipWith (fun a b => a + b) (x :: r) ys).map V.int)))).seqT h5
  have h7 : SqT K (upd H6 ad (.tup ((List.zipWith (fun a b => a + b) (x :: r) ys).map V.int))) ad ((List.zipWith (fun a b => a + b) (x :: r) ys).map V.int) := sqT upd_same
  generalize upd H6 ad (.tup ((List.zipWith (fun a b => a + b) (x :: r) ys).map V.int)) = H7 at s7 h57 h7
  walk_at "rd"
  refine ⟨a, b, _, ys, rfl, s7.seqT ha, s7.seqT hb, hl, by omega, fun le H8 s8 h8 => ?_⟩
  have s8' := s7.trans s8
  have h58 := s8.seqT h57
  have h78 := s8.seqT h7
  have ha8 := s8'.seqT ha
  have hb8 := s8'.seqT hb
  have lad : (List.zipWith (fun a b => a + b) (x :: r) ys).length = r.length + 1 := by
    rw [List.length_zipWith, ← hl, Nat.min_self, List.length_cons]
  have lle : (List.zipWith (fun a b => a - b) (x :: r) ys).length = r.length + 1 := by
    rw [List.length_zipWith, ← hl, Nat.min_self, List.length_cons]
  have lfu : (1 :: List.replicate r.length (0 : Int)).length = r.length + 1 := by
    rw [List.length_cons, List.length_replicate]
  cases k
  · walk_at "difs"
    refine ⟨ad, fu, _, _, rfl, h78, h58, by rw [lad, lfu], by omega, fun q1 H9 s9 h9 => ?_⟩
    walk_at "rd"
    refine ⟨by show 3 ≤ sizeLine; decide, fun p np => ?_⟩
    have sp := Same.new np (.tup [.ref q1, .ref fu, .ref ad])
    exact q p q1 fu ad _ ((s8'.trans s9).trans sp) upd_same (sp.seqT h9) (sp.seqT (s9.seqT h58)) (sp.seqT (s9.seqT h78))
  · walk_at "difs"
    refine ⟨ad, fu, _, _, rfl, h78, h58, by rw [lad, lfu], by omega, fun q1 H9 s9 h9 => ?_⟩
    walk_at "rd"
    refine ⟨ad, fu, _, _, rfl, s9.seqT h78, s9.seqT h58, by rw [lad, lfu], by omega, fun q2 H10 s10 h10 => ?_⟩
    walk_at "rd"
    refine ⟨fu, fu, _, _, rfl, s10.seqT (s9.seqT h58), s10.seqT (s9.seqT h58), rfl, by omega, fun q3 H11 s11 h11 => ?_⟩
    walk_at "rd"
    refine ⟨by show 3 ≤ sizeLine; decide, fun p np => ?_⟩
    have sp := Same.new np (.tup [.ref q1, .ref q2, .ref q3])
    rw [zeros_zip] at h11
    exact q p q1 q2 q3 _ ((((s8'.trans s9).trans s10).trans s11).trans sp) upd_same (sp.seqT (s11.seqT (s10.seqT h9))) (sp.seqT (s11.seqT h10)) (sp.seqT h11)
  · walk_at "difs"
    refine ⟨fu, le, _, _, rfl, h58, h8, by rw [lle, lfu], by omega, fun q2 H9 s9 h9 => ?_⟩
    walk_at "rd"
    refine ⟨by show 3 ≤ sizeLine; decide, fun p np => ?_⟩
    have sp := Same.new np (.tup [.ref le, .ref q2, .ref fu])
    rw [← oneLess_zip _ r.length lle] at h9
    exact q p le q2 fu _ ((s8'.trans s9).trans sp) upd_same (sp.seqT (s9.seqT h8)) (sp.seqT h9) (sp.seqT (s9.seqT h58))
  · walk_at "difs"
    refine ⟨by show 3 ≤ sizeLine; decide, fun p np => ?_⟩
    have sp := Same.new np (.tup [.ref le, .ref b, .ref a])
    exact q p le b a _ (s8'.trans sp) upd_same (sp.seqT h8) (sp.seqT hb8) (sp.seqT ha8)
  · walk_at "difs"
    refine ⟨by show 3 ≤ sizeLine; decide, fun p np => ?_⟩
    have sp := Same.new np (.tup [.ref le, .ref a, .ref b])
    exact q p le a b _ (s8'.trans sp) upd_same (sp.seqT h8) (sp.seqT ha8) (sp.seqT hb8)
  · walk_at "difs"
    refine ⟨fu, le, _, _, rfl, h58, h8, by rw [lle, lfu], by omega, fun q2 H9 s9 h9 => ?_⟩
    rw [← oneLess_zip _ r.length lle] at h9
    have h59 := s9.seqT h58
    have h89 := s9.seqT h8
    walk_at "rd"
    refine rd_atZ h59 h89 fun p6 n6 => lc_zip (fun i => V.int ((List.zipWith (fun a b => a + b) (1 :: List.replicate r.length (0 : Int)) (List.zipWith (fun a b => a - b) (x :: r) ys)).getD i 0)) (by rw [List.length_map, List.length_map, lfu, lle]) (by rw [List.length_map, lfu]; omega) n6 h59 h89 (fun x y => rfl) ?_ fun H10 s10 g10 => ?_
    · intro i y z H' R hy hz z' r
      obtain ⟨y', rfl⟩ := int_at hy
      obtain ⟨z', rfl⟩ := int_at hz
      walk_at "rd"
      have e := zip_at (fun a b => a + b) hy hz
      have r' := r H' (Same.refl _)
      rw [e] at r'
      exact r'
    rw [List.length_map, range_zip _ (by rw [lfu, lle])] at g10
    walk_at "rd"
    refine ⟨p6, _, rfl, .inl ⟨sqL g10, fun q3 nq3 => ?_⟩⟩
    have s11 := s10.trans (Same.new nq3 (.tup ((List.zipWith (fun a b => a + b) (1 :: List.replicate r.length (0 : Int)) (List.zipWith (fun a b => a - b) (x :: r) ys)).map V.int)))
    walk_at "rd"
    refine ⟨by show 3 ≤ sizeLine; decide, fun p np => ?_⟩
    have sp := Same.new np (.tup [.ref le, .ref q2, .ref q3])
    exact q p le q2 q3 _ (((s8'.trans s9).trans s11).trans sp) upd_same (sp.seqT (s11.seqT h89)) (sp.seqT (s11.seqT h9)) (sp.seqT (sqT upd_same))
end

def spTried (K : PySem.W.Frag) : Sp := fun vs H Q _ => ∃ (mark side : Str) (a b : Addr) (xs ys : List Int), vs = [.str mark, .str side, .ref a, .ref b] ∧ SqT K H a (xs.map V.int) ∧ SqT K H b (ys.map V.int) ∧
  xs.length = ys.length ∧ xs ≠ [] ∧ xs.length ≤ 900 ∧
  ((∃ k : Mk6, mark = k.str ∧ inV (.str side) sidesV = false ∧ ∀ (p : Addr) (H' : Hp), Same H H' → H' p = some (.lst [.str "WrongMark", .str side]) → Q (.ref p) H') ∨
    (inV (.str mark) marksV = false ∧ ∀ (p : Addr) (H' : Hp), Same H H' → H' p = some (.lst [.str "WrongMark", .str mark]) → Q (.ref p) H'))
def spRefused (K : PySem.W.Frag) : Sp := fun vs H Q _ => ∃ (mark : Str) (a b : Addr) (xs ys : List Int), vs = [.str mark, .ref a, .ref b] ∧ SqT K H a (xs.map V.int) ∧ SqT K H b (ys.map V.int) ∧
  xs.length = ys.length ∧ xs ≠ [] ∧ xs.length ≤ 900 ∧ inV (.str mark) marksV = false ∧ PyData.strOk mark = true ∧ ∀ H' : Hp, Same H H' → Q (.bl true) H'
theorem rd_xf {a : Addr} {cls : Value} {d : Option Addr} {C : Addr} {f : Str} {te : TE} {σ : L2.St} {H : Hp} {Q : VK} (h : te σ H fun x H1 => x = .ref a ∧ cls = .ref C ∧ ∃ (dd : Addr) (fs : List (Str × V)) (v : V), d = some dd ∧ H1 dd = some (.xd fs) ∧ fs.lookup f = some v ∧ Q v H1) : tXf a cls d C f te σ H Q := h
section
variable {P : Program} {w : World} {K : PySem.W.Frag} {mg : Str → Option Value} {base : Heap}
theorem sc_law_tried : FnScope ["mark", "side", "one", "two", "found", "e"] ["mark", "side", "one", "two"] (defScope s_law_tried) := ⟨rfl, rfl, rfl, by decide +kernel, rfl, by decide +kernel, by decide +kernel⟩
theorem ok_law_tried (T : Txt P K mg) {k : Nat} : FnOk P w K mg base CX0 (k + 5) T.f_law_tried T.d_law_tried ["mark", "side", "one", "two"] (spTried K) := by
  refine T.F_law_tried.ok sc_law_tried (fun vs H Q E h => ?_) (fun cdv A outer s H vs Q E hr h => ?_)
  · obtain ⟨mark, side, a, b, xs, ys, rfl, _⟩ := h
    rfl
  obtain ⟨mark, side, a, b, xs, ys, rfl, ha, hb, hl, hx, hz, q⟩ := h
  refine ⟨_, (pss_cons (ps_try_as (i := 5) rfl rfl sc_law_tried.nd rfl rfl ⟨by rfl, by decide, .inl T.m_WrongMark⟩ takes0 (fun W pn xe tk po => (pss_one (ps_set (i := 4) sc_law_tried.nd rfl (Or.inl rfl) (pe_lst (pa_cons pe_str (pa_cons (pe_callS (ok_form_by_side T) hr (by rfl) T.g_form_by_side T.F_form_by_side.kp T.b_form_by_side (fun σ => passAt tk σ) (pa_cons (pv 0) (pa_cons (pv 1) (pa_cons (pv 2) (pa_cons (pv 3) pa_nil))))) pa_nil)))))) (fun a oe cls d pn hz hf => (pss_one (ps_set (i := 4) sc_law_tried.nd rfl (Or.inl rfl) (pe_lst (pa_cons pe_str (pa_cons (pe_xf T.x_WrongMark T.n_WrongMark_mark hz hf (pv 5)) pa_nil)))))))
    (pss_one (ps_ret (pv 4)))), ?_⟩
  try dsimp only [L2.cxOf, L2.Cx.nox]
  walk_at "rd"
  refine rd_callS ?_
  walk_at "rd"
  rcases q with ⟨k, rfl, hno, q⟩ | ⟨hno, q⟩
  · refine ⟨_, side, a, b, xs, ys, rfl, ha, hb, hl, hx, hz, .inr (.inr (.inl ⟨k, rfl, hno, fun d H' s' hd => ?_⟩))⟩
    refine ⟨true, T.e_WrongMark_WrongMark, fun _ e9 n9 => ?_, fun z => nomatch z⟩
    walk_at "rd"
    refine rd_xf ?_
    walk_at "rd"
    refine ⟨rfl, rfl, d, _, _, rfl, hd, rfl, ?_⟩
    walk_at "rd"
    refine ⟨by show 2 ≤ sizeLine; decide, fun p np => ?_⟩
    walk_at "rd"
    exact q p _ (s'.trans (Same.new np _)) upd_same
  · refine ⟨_, side, a, b, xs, ys, rfl, ha, hb, hl, hx, hz, .inr (.inr (.inr ⟨hno, fun d H' s' hd => ?_⟩))⟩
    refine ⟨true, T.e_WrongMark_WrongMark, fun _ e9 n9 => ?_, fun z => nomatch z⟩
    walk_at "rd"
    refine rd_xf ?_
    walk_at "rd"
    refine ⟨rfl, rfl, d, _, _, rfl, hd, rfl, ?_⟩
    walk_at "rd"
    refine ⟨by show 2 ≤ sizeLine; decide, fun p np => ?_⟩
    walk_at "rd"
    exact q p _ (s'.trans (Same.new np _)) upd_same
theorem rd_ne2 {H : Hp} {Q : VK} {p1 p2 : Addr} {x y : Str} (h1 : H p1 = some (.lst [.str x, .str y])) (h2 : H p2 = some (.lst [.str x, .str y])) (hx : PyData.strOk x = true) (hy : PyData.strOk y = true) (q : Q (.bl false) H) : rNeD K (.ref p1) (.ref p2) H Q := by
  have sm : smallD (.list ([x, y].map PyData.str)) = true := by
    rw [smallD]
    refine small_strs _ fun z hz => ?_
    simp only [List.mem_cons, List.not_mem_nil, or_false] at hz
    rcases hz with rfl | rfl
    · exact hx
    · exact hy
  have dp : (PyData.list ([x, y].map PyData.str)).depth ≤ 64 := by rw [PyData.depth, depth_strs]; decide
  refine rd_neD (.lst (sqL h1) (dp_strs K H [x, y])) (.lst (sqL h2) (dp_strs K H [x, y])) sm sm dp dp ?_
  rw [SeqAt.eqv_refl _ (small_lay _ sm)]
  exact q
theorem rd_eq2 {H : Hp} {Q : VK} {p1 p2 : Addr} {x y : Str} (h1 : H p1 = some (.lst [.str x, .str y])) (h2 : H p2 = some (.lst [.str x, .str y])) (hx : PyData.strOk x = true) (hy : PyData.strOk y = true) (q : Q (.bl true) H) : rEqD K (.ref p1) (.ref p2) H Q := by
  have sm : smallD (.list ([x, y].map PyData.str)) = true := by
    rw [smallD]
    refine small_strs _ fun z hz => ?_
    simp only [List.mem_cons, List.not_mem_nil, or_false] at hz
    rcases hz with rfl | rfl
    · exact hx
    · exact hy
  have dp : (PyData.list ([x, y].map PyData.str)).depth ≤ 64 := by rw [PyData.depth, depth_strs]; decide
  refine rd_eqD (.lst (sqL h1) (dp_strs K H [x, y])) (.lst (sqL h2) (dp_strs K H [x, y])) sm sm dp dp ?_
  rw [SeqAt.eqv_refl _ (small_lay _ sm)]
  exact q
theorem sc_law_refused : FnScope ["mark", "one", "two", "found", "e"] ["mark", "one", "two"] (defScope s_law_refused) := ⟨rfl, rfl, rfl, by decide +kernel, rfl, by decide +kernel, by decide +kernel⟩
theorem ok_law_refused (T : Txt P K mg) {k : Nat} : FnOk P w K mg base CX0 (k + 6) T.f_law_refused T.d_law_refused ["mark", "one", "two"] (spRefused K) := by
  refine T.F_law_refused.ok sc_law_refused (fun vs H Q E h => ?_) (fun cdv A outer s H vs Q E hr h => ?_)
  · obtain ⟨mark, a, b, xs, ys, rfl, _⟩ := h
    rfl
  obtain ⟨mark, a, b, xs, ys, rfl, ha, hb, hl, hx, hz, hno, hok, q⟩ := h
  refine ⟨_, (pss_cons (ps_try_as (i := 4) rfl rfl sc_law_refused.nd rfl rfl ⟨by rfl, by decide, .inl T.m_WrongMark⟩ takes0 (fun W pn xe tk po => (pss_one (ps_set (i := 3) sc_law_refused.nd rfl (Or.inl rfl) (pe_lst (pa_cons pe_str (pa_cons (pe_callS (ok_question_of T) hr (by rfl) T.g_question_of T.F_question_of.kp T.b_question_of (fun σ => passAt tk σ) (pa_cons (pv 0) (pa_cons (pv 1) (pa_cons (pv 2) pa_nil)))) pa_nil)))))) (fun a oe cls d pn hz hf => (pss_one (ps_set (i := 3) sc_law_refused.nd rfl (Or.inl rfl) (pe_lst (pa_cons pe_str (pa_cons (pe_xf T.x_WrongMark T.n_WrongMark_mark hz hf (pv 4)) pa_nil)))))))
    (pss_cons (ps_if (PW.pt (pw_or (pt_cmpR (neDK K hr.units) (pv 3) (pe_lst (pa_cons pe_str (pa_cons (pv 0) pa_nil))) (by rfl)) (pw_or1 (pt_cmpR (neDK K hr.units) (pe_call (ok_law_tried T) hr (by rfl) T.g_law_tried T.F_law_tried.kp T.b_law_tried .nil pass0 (pa_cons (pv 0) (pa_cons pe_str (pa_cons (pv 1) (pa_cons (pv 2) pa_nil))))) (pe_lst (pa_cons pe_str (pa_cons (pv 0) pa_nil))) (by rfl))))) (pss_one (ps_ret pe_bl)) pss_nil)
    (pss_one (ps_ret (pe_cmpR (eqDK K hr.units) (pe_call (ok_law_tried T) hr (by rfl) T.g_law_tried T.F_law_tried.kp T.b_law_tried .nil pass0 (pa_cons (pv 0) (pa_cons pe_str (pa_cons (pv 1) (pa_cons (pv 2) pa_nil))))) (pe_lst (pa_cons pe_str (pa_cons (pv 0) pa_nil))) (by rfl)))))), ?_⟩
  try dsimp only [L2.cxOf, L2.Cx.nox]
  have wm : PyData.strOk "WrongMark" = true := by decide +kernel
  walk_at "rd"
  refine rd_callS ?_
  walk_at "rd"
  refine ⟨_, a, b, xs, ys, rfl, ha, hb, hl, hx, hz, .inr ⟨hno, fun d H' s' hd => ?_⟩⟩
  refine ⟨true, T.e_WrongMark_WrongMark, fun _ e9 n9 => ?_, fun z => nomatch z⟩
  walk_at "rd"
  refine rd_xf ?_
  walk_at "rd"
  refine ⟨rfl, rfl, d, _, _, rfl, hd, rfl, ?_⟩
  walk_at "rd"
  refine ⟨by show 2 ≤ sizeLine; decide, fun p np => ?_⟩
  have s1 := s'.trans (Same.new np (.lst [V.str (Str.ofString "WrongMark"), V.str mark]))
  have h1 : (upd H' p (.lst [V.str (Str.ofString "WrongMark"), V.str mark])) p = some (.lst [V.str (Str.ofString "WrongMark"), V.str mark]) := upd_same
  generalize upd H' p (.lst [V.str (Str.ofString "WrongMark"), V.str mark]) = H1 at s1 h1
  walk_at "rd"
  refine ⟨by show 2 ≤ sizeLine; decide, fun p2 n2 => ?_⟩
  have s2 := s1.trans (Same.new n2 (.lst [V.str (Str.ofString "WrongMark"), V.str mark]))
  refine rd_ne2 ((Same.new n2 _) _ _ h1) upd_same wm hok ?_
  generalize upd H1 p2 (.lst [V.str (Str.ofString "WrongMark"), V.str mark]) = H2 at s2
  walk_at "rd"
  refine iteF ?_
  walk_at "rd"
  refine ⟨mark, _, a, b, xs, ys, rfl, s2.seqT ha, s2.seqT hb, hl, hx, hz, .inr ⟨hno, fun p3 H3 s3 h3 => ?_⟩⟩
  have s3' := s2.trans s3
  walk_at "rd"
  refine ⟨by show 2 ≤ sizeLine; decide, fun p4 n4 => ?_⟩
  have s4 := s3'.trans (Same.new n4 (.lst [V.str (Str.ofString "WrongMark"), V.str mark]))
  refine rd_ne2 ((Same.new n4 _) _ _ h3) upd_same wm hok ?_
  generalize upd H3 p4 (.lst [V.str (Str.ofString "WrongMark"), V.str mark]) = H4 at s4
  walk_at "rd"
  refine iteF ?_
  walk_at "rd"
  refine ⟨mark, _, a, b, xs, ys, rfl, s4.seqT ha, s4.seqT hb, hl, hx, hz, .inr ⟨hno, fun p5 H5 s5 h5 => ?_⟩⟩
  have s5' := s4.trans s5
  walk_at "rd"
  refine ⟨by show 2 ≤ sizeLine; decide, fun p6 n6 => ?_⟩
  refine rd_eq2 ((Same.new n6 _) _ _ h5) upd_same wm hok ?_
  exact q _ (s5'.trans (Same.new n6 _))
end

/-! ### sums over a row, and what the sides say -/
theorem dot_nil (xs : List Int) : dot xs [] = 0 := by
  unfold dot
  rw [List.zipWith_nil_right]
  rfl
theorem dot_cons (x y : Int) (xs ys : List Int) : dot (x :: xs) (y :: ys) = x * y + dot xs ys := by
  unfold dot
  rw [List.zipWith_cons_cons, List.sum_cons]
theorem dot_sub : ∀ (zs xs ys : List Int), xs.length = zs.length → ys.length = zs.length → dot (List.zipWith (fun a b => a - b) xs ys) zs = dot xs zs - dot ys zs
  | [], xs, ys, _, _ => by rw [dot_nil, dot_nil, dot_nil]; rfl
  | z :: r, x :: xs, y :: ys, h1, h2 => by
    have ih := dot_sub r xs ys (by simpa using h1) (by simpa using h2)
    rw [List.zipWith_cons_cons, dot_cons, dot_cons, dot_cons, ih, Int.sub_mul]
    omega
theorem dot_add : ∀ (zs xs ys : List Int), xs.length = zs.length → ys.length = zs.length → dot (List.zipWith (fun a b => a + b) xs ys) zs = dot xs zs + dot ys zs
  | [], xs, ys, _, _ => by rw [dot_nil, dot_nil, dot_nil]; rfl
  | z :: r, x :: xs, y :: ys, h1, h2 => by
    have ih := dot_add r xs ys (by simpa using h1) (by simpa using h2)
    rw [List.zipWith_cons_cons, dot_cons, dot_cons, dot_cons, ih, Int.add_mul]
    omega
theorem dot_zeros : ∀ (n : Nat) (zs : List Int), dot (List.replicate n 0) zs = 0
  | 0, zs => by cases zs <;> rfl
  | n + 1, [] => dot_nil _
  | n + 1, z :: r => by rw [List.replicate_succ, dot_cons, dot_zeros n r, Int.zero_mul]; rfl
theorem dot_const (i w : Int) (n : Nat) (ds : List Int) : dot (i :: List.replicate n 0) (w :: ds) = i * w := by
  rw [dot_cons, dot_zeros, Int.add_zero]
section
variable {k : Mk6} {xs ys ds : List Int} {w : Int}
theorem len_sp (hx : xs.length = ds.length + 1) : xs.length = (w :: ds).length := hx
theorem dot_quest (hx : xs.length = ds.length + 1) (hy : ys.length = ds.length + 1) : dot (quest k xs ys) (w :: ds) = match k with
    | .plus => dot xs (w :: ds) + dot ys (w :: ds) - w
    | .times => dot xs (w :: ds) + dot ys (w :: ds) - w
    | _ => dot xs (w :: ds) - dot ys (w :: ds) := by
  have h1 : xs.length = (w :: ds).length := hx
  have h2 : ys.length = (w :: ds).length := hy
  have h3 : (List.zipWith (fun a b => a + b) xs ys).length = (w :: ds).length := by rw [List.length_zipWith, h1, h2, Nat.min_self]
  have h4 : (1 :: List.replicate (xs.length - 1) (0 : Int)).length = (w :: ds).length := by
    rw [List.length_cons, List.length_replicate, hx]
    rfl
  cases k
  · show dot (List.zipWith (fun a b => a - b) (List.zipWith (fun a b => a + b) xs ys) (1 :: List.replicate (xs.length - 1) 0)) (w :: ds) = _
    rw [dot_sub _ _ _ h3 h4, dot_add _ _ _ h1 h2, dot_const, Int.one_mul]
  · show dot (List.zipWith (fun a b => a - b) (List.zipWith (fun a b => a + b) xs ys) (1 :: List.replicate (xs.length - 1) 0)) (w :: ds) = _
    rw [dot_sub _ _ _ h3 h4, dot_add _ _ _ h1 h2, dot_const, Int.one_mul]
  all_goals exact dot_sub _ _ _ h1 h2
theorem len_q (hx : xs.length = ds.length + 1) (hy : ys.length = ds.length + 1) : (quest k xs ys).length = ds.length + 1 := by
  rw [len_quest k (hx.trans hy.symm) (fun z => by rw [z] at hx; cases hx), hx]
theorem dot_oneLess {qs : List Int} (h : qs.length = ds.length + 1) : dot (oneLess qs) (w :: ds) = w - dot qs (w :: ds) := by
  rw [oneLess_zip qs ds.length h, dot_sub _ _ _ (by rw [List.length_cons, List.length_replicate]; rfl) (show qs.length = (w :: ds).length from h), dot_const, Int.one_mul]
theorem side_least (hx : xs.length = ds.length + 1) (hy : ys.length = ds.length + 1) (h : 0 ≤ dot (quest k xs ys) (w :: ds)) :
    dot (least k (quest k xs ys) xs ys) (w :: ds) = given k (dot xs (w :: ds)) (dot ys (w :: ds)) w := by
  have e := dot_quest (k := k) (w := w) hx hy
  rw [e] at h
  cases k <;> dsimp only at e h <;> unfold least given imin imax <;> dsimp only
  · rw [dot_const, Int.one_mul, if_neg (by omega)]
  · rw [e]
    split <;> omega
  · rw [dot_oneLess (len_q hx hy), e]
    split <;> omega
  · split <;> omega
  · split <;> omega
  · rw [dot_oneLess (len_q hx hy), e]
    unfold iabs
    split <;> omega
theorem side_most (hx : xs.length = ds.length + 1) (hy : ys.length = ds.length + 1) (h : dot (quest k xs ys) (w :: ds) ≤ 0) :
    dot (most k (quest k xs ys) xs ys) (w :: ds) = given k (dot xs (w :: ds)) (dot ys (w :: ds)) w := by
  have e := dot_quest (k := k) (w := w) hx hy
  have h1 : xs.length = (w :: ds).length := hx
  have h2 : ys.length = (w :: ds).length := hy
  rw [e] at h
  cases k <;> dsimp only at e h <;> unfold most given imin imax <;> dsimp only
  · rw [dot_add _ _ _ h1 h2]
    split <;> omega
  · rw [dot_const, Int.zero_mul]
    split <;> omega
  · rw [dot_const, Int.one_mul]
    split <;> omega
  · split <;> omega
  · split <;> omega
  · rw [dot_add _ _ _ (by rw [List.length_cons, List.length_replicate, hx]; rfl) (len_q hx hy), dot_const, Int.one_mul, e]
    unfold iabs
    split <;> omega
end
/-! ### how great the numbers are -/
theorem low_zip {f : Int → Int → Int} (hf : ∀ a b, (f a b).natAbs ≤ a.natAbs + b.natAbs) : ∀ {B C : Nat} {xs ys : List Int}, Low B xs → Low C ys → Low (B + C) (List.zipWith f xs ys)
  | B, C, [], ys, _, _ => by rw [List.zipWith_nil_left]; exact fun x h => nomatch h
  | B, C, x :: xs, [], _, _ => fun x h => nomatch h
  | B, C, x :: xs, y :: ys, h1, h2 => fun z hz => by
    rw [List.zipWith_cons_cons] at hz
    rcases List.mem_cons.mp hz with rfl | hz
    · have a := h1 x (List.mem_cons_self ..)
      have b := h2 y (List.mem_cons_self ..)
      have c := hf x y
      omega
    · exact low_zip hf (fun u m => h1 u (List.mem_cons_of_mem _ m)) (fun u m => h2 u (List.mem_cons_of_mem _ m)) z hz
theorem low_mono {B C : Nat} {xs : List Int} (h : Low B xs) (q : B ≤ C) : Low C xs := fun x m => Nat.le_trans (h x m) q
theorem low_const (i : Int) (n : Nat) (h : i.natAbs ≤ 1) : Low 1 (i :: List.replicate n 0) := fun x m => by
  rcases List.mem_cons.mp m with rfl | m
  · exact h
  · rw [(List.mem_replicate.mp m).2]
    exact Nat.zero_le _
theorem abs_add (a b : Int) : (a + b).natAbs ≤ a.natAbs + b.natAbs := by omega
theorem abs_sub (a b : Int) : (a - b).natAbs ≤ a.natAbs + b.natAbs := by omega
theorem low_quest (k : Mk6) {B : Nat} {xs ys : List Int} (h1 : Low B xs) (h2 : Low B ys) : Low (B + B + 1) (quest k xs ys) := by
  cases k
  · exact low_zip abs_sub (low_zip abs_add h1 h2) (low_const 1 _ (by decide))
  · exact low_zip abs_sub (low_zip abs_add h1 h2) (low_const 1 _ (by decide))
  all_goals exact low_mono (low_zip abs_sub h1 h2) (by omega)
theorem low_oneLess {B : Nat} {xs : List Int} (h : Low B xs) : Low (B + 1) (oneLess xs) := by
  cases xs with
  | nil => exact fun x m => nomatch m
  | cons x r =>
    intro y m
    rcases List.mem_cons.mp m with rfl | m
    · have := h x (List.mem_cons_self ..)
      omega
    · obtain ⟨z, hz, rfl⟩ := List.mem_map.mp m
      have := h z (List.mem_cons_of_mem _ hz)
      omega
theorem low_least (k : Mk6) {B : Nat} {qs xs ys : List Int} (h0 : Low (B + B + 1) qs) (h1 : Low B xs) (h2 : Low B ys) : Low (B + B + 2) (least k qs xs ys) := by
  cases k
  · exact low_mono (low_const 1 _ (by decide)) (by omega)
  · exact low_mono h0 (by omega)
  · exact low_oneLess h0
  · exact low_mono h2 (by omega)
  · exact low_mono h1 (by omega)
  · exact low_oneLess h0
theorem low_most (k : Mk6) {B : Nat} {qs xs ys : List Int} (h0 : Low (B + B + 1) qs) (h1 : Low B xs) (h2 : Low B ys) : Low (B + B + 2) (most k qs xs ys) := by
  cases k
  · exact low_mono (low_zip abs_add h1 h2) (by omega)
  · exact low_mono (low_const 0 _ (by decide)) (by omega)
  · exact low_mono (low_const 1 _ (by decide)) (by omega)
  · exact low_mono h1 (by omega)
  · exact low_mono h2 (by omega)
  · exact low_mono (low_zip abs_add (low_const 1 _ (by decide)) h0) (by omega)
theorem len_least (k : Mk6) {xs ys qs : List Int} {n : Nat} (hx : xs.length = n + 1) (hy : ys.length = n + 1) (hq : qs.length = n + 1) : (least k qs xs ys).length = n + 1 := by
  cases k
  · show (1 :: List.replicate (xs.length - 1) (0 : Int)).length = n + 1
    rw [List.length_cons, List.length_replicate, hx]
    rfl
  · exact hq
  · rw [show least .leads qs xs ys = oneLess qs from rfl, oneLess_zip qs n hq, List.length_zipWith, List.length_cons, List.length_replicate, hq, Nat.min_self]
  · exact hy
  · exact hx
  · rw [show least .same qs xs ys = oneLess qs from rfl, oneLess_zip qs n hq, List.length_zipWith, List.length_cons, List.length_replicate, hq, Nat.min_self]
theorem len_most (k : Mk6) {xs ys qs : List Int} {n : Nat} (hx : xs.length = n + 1) (hy : ys.length = n + 1) (hq : qs.length = n + 1) : (most k qs xs ys).length = n + 1 := by
  cases k
  · show (List.zipWith (fun a b => a + b) xs ys).length = n + 1
    rw [List.length_zipWith, hx, hy, Nat.min_self]
  · show (0 :: List.replicate (xs.length - 1) (0 : Int)).length = n + 1
    rw [List.length_cons, List.length_replicate, hx]
    rfl
  · show (1 :: List.replicate (xs.length - 1) (0 : Int)).length = n + 1
    rw [List.length_cons, List.length_replicate, hx]
    rfl
  · exact hx
  · exact hy
  · show (List.zipWith (fun a b => a + b) (1 :: List.replicate (xs.length - 1) (0 : Int)) qs).length = n + 1
    rw [List.length_zipWith, List.length_cons, List.length_replicate, hx, hq, Nat.add_sub_cancel, Nat.min_self]
theorem lay_ints : ∀ ns : List Int, PyData.canLayAll0 (ns.map PyData.int) = true
  | [] => rfl
  | x :: r => by
    rw [List.map_cons, PyData.canLayAll0, lay_ints r]
    rfl
theorem rd_neSame {K : PySem.W.Frag} {H : Hp} {Q : VK} {x y : V} {d : PyData} (hd : Dp K H x d) (he : Dp K H y d) (lay : d.canLay0 = true) (dp : d.depth ≤ 64) (q : Q (.bl false) H) : rNeD K x y H Q := by
  have sh : SeqAt.shaped d = true := by
    show (d.canLay0 && decide (d.depth ≤ 64)) = true
    rw [lay, decide_eq_true dp]
    rfl
  refine ⟨d, d, hd, he, sh, sh, ?_⟩
  rw [SeqAt.eqv_refl d lay]
  exact q
theorem marks_mem {i : Nat} {v : V} (h : marksV[i]? = some v) : ∃ k : Mk6, v = .str k.str := by
  have m := List.mem_of_getElem? h
  unfold marksV at m
  simp only [List.mem_cons, List.not_mem_nil, or_false] at m
  rcases m with rfl | rfl | rfl | rfl | rfl | rfl
  · exact ⟨.plus, rfl⟩
  · exact ⟨.times, rfl⟩
  · exact ⟨.leads, rfl⟩
  · exact ⟨.and, rfl⟩
  · exact ⟨.or, rfl⟩
  · exact ⟨.same, rfl⟩
theorem all_true (n : Nat) : (List.replicate n true).all id = true := by
  rw [List.all_replicate]
  split <;> rfl

def spLaw (K : PySem.W.Frag) : Sp := fun vs H Q _ => ∃ (a : Addr) (ns : List Int), vs = [.ref a] ∧ SqL K H a (ns.map V.int) ∧ ns.length ≤ 63 ∧ ∀ H' : Hp, Q (.bl true) H'
def oddsV : List V := [.str "Plus", .str "", .str "least", .str "not", .str "no", .str "unknown", .str "equals", .str "plus ", .str "x"]
def sidesOddV : List V := [.str "", .str "Least", .str "lesser", .str "plus", .str "and", .str "most "]
theorem odds_ok {v : V} (h : v ∈ oddsV) : ∃ s : Str, v = .str s ∧ inV (.str s) marksV = false ∧ PyData.strOk s = true := by
  unfold oddsV at h
  simp only [List.mem_cons, List.not_mem_nil, or_false] at h
  rcases h with rfl | rfl | rfl | rfl | rfl | rfl | rfl | rfl | rfl <;> exact ⟨_, rfl, by decide +kernel, by decide +kernel⟩
theorem sidesOdd_ok {v : V} (h : v ∈ sidesOddV) : ∃ s : Str, v = .str s ∧ inV (.str s) sidesV = false ∧ PyData.strOk s = true := by
  unfold sidesOddV at h
  simp only [List.mem_cons, List.not_mem_nil, or_false] at h
  rcases h with rfl | rfl | rfl | rfl | rfl | rfl <;> exact ⟨_, rfl, by decide +kernel, by decide +kernel⟩
theorem same_kp {H H1 H2 : Hp} {m : Addr} (s : Same H H1) (h : H m = none) (k : Kp m H1 H2) : Same H H2 := fun b o e => k b o (fun z => by rw [z, h] at e; cases e) (s b o e)
section
variable {P : Program} {w : World} {K : PySem.W.Frag} {mg : Str → Option Value} {base : Heap}
theorem sc_law : FnScope ["script", "marks", "k", "m", "turn", "size", "great", "one", "two", "mark", "asked", "told", "whole", "spot", "value", "odd", "side", "part", "step"] ["script"] (defScope s_law) := ⟨rfl, rfl, rfl, by decide +kernel, rfl, by decide +kernel, by decide +kernel⟩
theorem ok_law (T : Txt P K mg) {k : Nat} {f : Addr} {fd : FuncData} (F : Fun K "law" "law" s_law f fd) : FnOk P w K mg base CX0 (k + 10) f fd ["script"] (spLaw K) := by
  refine F.ok sc_law (fun vs H Q E h => ?_) (fun cdv A outer s H vs Q E hr h => ?_)
  · obtain ⟨a, ns, rfl, _⟩ := h
    rfl
  obtain ⟨a, ns, rfl, ha, hl, q⟩ := h
  refine ⟨_, (pss_cons (ps_set (i := 1) sc_law.nd rfl (Or.inl rfl) (pe_lst (pa_cons pe_str (pa_cons pe_str (pa_cons pe_str (pa_cons pe_str (pa_cons pe_str (pa_cons pe_str pa_nil))))))))
    (pss_cons (ps_for PassesOwn.never rfl (pi_range1 rfl T.z_range (pa_cons pe_int pa_nil)) (pg_name (i := 2) sc_law.nd rfl (Or.inl rfl)) (pss_cons (ps_set (i := 3) sc_law.nd rfl (Or.inr rfl) (pe_call (ok_law_begun T) hr (by rfl) T.g_law_begun T.F_law_begun.kp T.b_law_begun .nil pass0 (pa_cons (pv 0) (pa_cons (pv 2) pa_nil))))
    (pss_one (ps_for PassesOwn.never rfl (pi_range1 rfl T.z_range (pa_cons pe_int pa_nil)) (pg_name (i := 4) sc_law.nd rfl (Or.inl rfl)) (pss_cons (ps_par (i := 5) (j := 6) (by rfl) sc_law.nd rfl rfl (by decide) rfl rfl (pa_cons (pe_call (ok_law_draw T) hr (by rfl) T.g_law_draw T.F_law_draw.kp T.b_law_draw .nil pass0 (pa_cons (pv 3) (pa_cons pe_int pa_nil))) (pa_cons (pe_call (ok_law_of T) hr (by rfl) T.g_law_of T.F_law_of.kp T.b_law_of .nil pass0 (pa_cons (pv 3) (pa_cons (pe_lst (pa_cons pe_int (pa_cons pe_int (pa_cons (pe_op op_pow pe_int pe_int) pa_nil)))) pa_nil))) pa_nil)) (by rfl))
    (pss_cons (ps_asg (pe_tup (pa_cons (pe_call (ok_law_form T) hr (by rfl) T.g_law_form T.F_law_form.kp T.b_law_form .nil pass0 (pa_cons (pv 3) (pa_cons (pv 5) (pa_cons (pv 6) pa_nil)))) (pa_cons (pe_call (ok_law_form T) hr (by rfl) T.g_law_form T.F_law_form.kp T.b_law_form .nil pass0 (pa_cons (pv 3) (pa_cons (pv 5) (pa_cons (pv 6) pa_nil)))) (pa_cons (pe_ix (ix_listK K) (pv 1) (pv 4) (fun _ _ => rfl)) pa_nil)))) (pg_tup rfl (pgs_cons (pg_name (i := 7) sc_law.nd rfl (Or.inr rfl)) (pgs_cons (pg_name (i := 8) sc_law.nd rfl (Or.inr rfl)) (pgs_cons (pg_name (i := 9) sc_law.nd rfl (Or.inr rfl)) pgs_nil)))))
    (Evl.pss_cut (ps_if (pt_cmpR op_eq (pe_call (ok_law_draw T) hr (by rfl) T.g_law_draw T.F_law_draw.kp T.b_law_draw .nil pass0 (pa_cons (pv 3) (pa_cons pe_int pa_nil))) pe_int (by rfl)) (pss_one (ps_set (i := 8) sc_law.nd rfl (Or.inr rfl) (pv 7))) pss_nil)
    (pss_cons (ps_set (i := 10) sc_law.nd rfl (Or.inl rfl) (pe_call (ok_question_of T) hr (by rfl) T.g_question_of T.F_question_of.kp T.b_question_of .nil passL (pa_cons (pv 9) (pa_cons (pv 7) (pa_cons (pv 8) pa_nil)))))
    (pss_cons (ps_setLc (i := 11) (own := [("side", 16)]) (g := (gName 16)) rfl sc_law.nd rfl rfl (sw_true rfl rfl rfl (by decide +kernel)) (pi_list (pe_lst (pa_cons pe_str (pa_cons pe_str pa_nil)))) (blkOk_by (N := ["script", "marks", "k", "m", "turn", "size", "great", "one", "two", "mark", "asked", "told", "whole", "spot", "value", "odd", "side", "part", "step"]) (sc := defScope s_law) (by decide +kernel)) (fun _ _ _ _ _ => (pg_name (i := 16) sc_law.nd rfl (Or.inl rfl))) (fun _ _ _ _ _ => pts_nil) (fun _ _ _ _ _ => (pe_call (ok_form_by_side T) hr (by rfl) T.g_form_by_side T.F_form_by_side.kp T.b_form_by_side .nil passL (pa_cons (pv 9) (pa_cons (pv 16) (pa_cons (pv 7) (pa_cons (pv 8) pa_nil)))))))
    (pss_cons (ps_if (pt_cmpR (neDK K hr.units) (pe_tup (pa_cons (pv 10) (pa_cons (pe_ix (ix_listK K) (pv 11) pe_int (fun _ _ => rfl)) (pa_cons (pe_ix (ix_listK K) (pv 11) pe_int (fun _ _ => rfl)) pa_nil)))) (pe_call (ok_law_ask T) hr (by rfl) T.g_law_ask T.F_law_ask.kp T.b_law_ask .nil pass0 (pa_cons (pv 9) (pa_cons (pv 7) (pa_cons (pv 8) pa_nil)))) (by rfl)) (pss_one (ps_ret pe_bl)) pss_nil)
    (pss_cons (ps_if (pt_not (pt_val (pe_callB (allK K) (by rfl) T.z_all (by decide +kernel) (pa_cons (pe_lc (own := [("part", 17)]) (g := (gName 17)) rfl sc_law.nd (pi_tup (pe_op (op_catTK K) (pe_op (op_catTK K) (pv 10) (pe_ix (ix_listK K) (pv 11) pe_int (fun _ _ => rfl))) (pe_ix (ix_listK K) (pv 11) pe_int (fun _ _ => rfl)))) (blkOk_by (N := ["script", "marks", "k", "m", "turn", "size", "great", "one", "two", "mark", "asked", "told", "whole", "spot", "value", "odd", "side", "part", "step"]) (sc := defScope s_law) (by decide +kernel)) (fun _ _ _ _ _ => (pg_name (i := 17) sc_law.nd rfl (Or.inl rfl))) (fun _ _ _ _ _ => pts_nil) (fun _ _ _ _ _ => (pe_call (ok_law_whole T) hr (by rfl) T.g_law_whole T.F_law_whole.kp T.b_law_whole .nil pass0 (pa_cons (pv 17) pa_nil)))) pa_nil)))) (pss_one (ps_ret pe_bl)) pss_nil)
    (pss_cons (ps_set (i := 12) sc_law.nd rfl (Or.inr rfl) (pe_op op_add pe_int (pe_call (ok_law_draw T) hr (by rfl) T.g_law_draw T.F_law_draw.kp T.b_law_draw .nil pass0 (pa_cons (pv 3) (pa_cons pe_int pa_nil)))))
    (pss_cons (ps_set (i := 13) sc_law.nd rfl (Or.inl rfl) (pe_callTy (tuple_ofK K) (by rfl) T.z_tuple (by decide +kernel) (pa_cons (pe_op op_cat (pe_lst (pa_cons (pv 12) pa_nil)) (pe_lc (own := [("step", 18)]) (g := (gName 18)) rfl sc_law.nd (pi_range1 rfl T.z_range (pa_cons (pv 5) pa_nil)) (blkOk_by (N := ["script", "marks", "k", "m", "turn", "size", "great", "one", "two", "mark", "asked", "told", "whole", "spot", "value", "odd", "side", "part", "step"]) (sc := defScope s_law) (by decide +kernel)) (fun _ _ _ _ _ => (pg_name (i := 18) sc_law.nd rfl (Or.inl rfl))) (fun _ _ _ _ _ => pts_nil) (fun _ _ _ _ _ => (pe_call (ok_law_drawC T) hr (by rfl) T.g_law_draw T.F_law_draw.kp T.b_law_draw .nil pass0 (pa_cons (pv 3) (pa_cons (pe_op op_add (pv 12) pe_int) pa_nil)))))) pa_nil)))
    (pss_cons (ps_set (i := 14) sc_law.nd rfl (Or.inl rfl) (pe_call (ok_law_given T) hr (by rfl) T.g_law_given T.F_law_given.kp T.b_law_given .nil pass0 (pa_cons (pv 9) (pa_cons (pe_call (ok_law_on T) hr (by rfl) T.g_law_on T.F_law_on.kp T.b_law_on .nil pass0 (pa_cons (pv 7) (pa_cons (pv 13) pa_nil))) (pa_cons (pe_call (ok_law_on T) hr (by rfl) T.g_law_on T.F_law_on.kp T.b_law_on .nil pass0 (pa_cons (pv 8) (pa_cons (pv 13) pa_nil))) (pa_cons (pv 12) pa_nil))))))
    (Evl.pss_cut (ps_if (PW.pt (pw_and (pt_cmpR op_ge (pe_call (ok_law_on T) hr (by rfl) T.g_law_on T.F_law_on.kp T.b_law_on .nil pass0 (pa_cons (pv 10) (pa_cons (pv 13) pa_nil))) pe_int (by rfl)) (pw_and1 (pt_cmpR op_ne (pe_call (ok_law_on T) hr (by rfl) T.g_law_on T.F_law_on.kp T.b_law_on .nil pass0 (pa_cons (pe_ix (ix_listK K) (pv 11) pe_int (fun _ _ => rfl)) (pa_cons (pv 13) pa_nil))) (pv 14) (by rfl))))) (pss_one (ps_ret pe_bl)) pss_nil)
    (Evl.pss_cut (ps_if (PW.pt (pw_and (pt_cmpR op_le (pe_call (ok_law_on T) hr (by rfl) T.g_law_on T.F_law_on.kp T.b_law_on .nil pass0 (pa_cons (pv 10) (pa_cons (pv 13) pa_nil))) pe_int (by rfl)) (pw_and1 (pt_cmpR op_ne (pe_call (ok_law_on T) hr (by rfl) T.g_law_on T.F_law_on.kp T.b_law_on .nil pass0 (pa_cons (pe_ix (ix_listK K) (pv 11) pe_int (fun _ _ => rfl)) (pa_cons (pv 13) pa_nil))) (pv 14) (by rfl))))) (pss_one (ps_ret pe_bl)) pss_nil)
    (pss_cons (ps_set (i := 15) sc_law.nd rfl (Or.inl rfl) (pe_call (ok_law_of T) hr (by rfl) T.g_law_of T.F_law_of.kp T.b_law_of .nil pass0 (pa_cons (pv 3) (pa_cons (pe_lst (pa_cons pe_str (pa_cons pe_str (pa_cons pe_str (pa_cons pe_str (pa_cons pe_str (pa_cons pe_str (pa_cons pe_str (pa_cons pe_str (pa_cons pe_str pa_nil)))))))))) pa_nil))))
    (pss_cons (ps_if (pt_not (pt_val (pe_call (ok_law_refused T) hr (by rfl) T.g_law_refused T.F_law_refused.kp T.b_law_refused .nil pass0 (pa_cons (pv 15) (pa_cons (pv 7) (pa_cons (pv 8) pa_nil)))))) (pss_one (ps_ret pe_bl)) pss_nil)
    (pss_cons (ps_set (i := 16) sc_law.nd rfl (Or.inl rfl) (pe_call (ok_law_of T) hr (by rfl) T.g_law_of T.F_law_of.kp T.b_law_of .nil pass0 (pa_cons (pv 3) (pa_cons (pe_lst (pa_cons pe_str (pa_cons pe_str (pa_cons pe_str (pa_cons pe_str (pa_cons pe_str (pa_cons pe_str pa_nil))))))) pa_nil))))
    (pss_one (ps_if (pt_cmpR (neDK K hr.units) (pe_call (ok_law_tried T) hr (by rfl) T.g_law_tried T.F_law_tried.kp T.b_law_tried .nil pass0 (pa_cons (pv 9) (pa_cons (pv 16) (pa_cons (pv 7) (pa_cons (pv 8) pa_nil))))) (pe_lst (pa_cons pe_str (pa_cons (pv 16) pa_nil))) (by rfl)) (pss_one (ps_ret pe_bl)) pss_nil)))))))))))))))))))))
    (pss_one (ps_ret pe_bl)))), ?_⟩
  try dsimp only [L2.cxOf, L2.Cx.nox]
  walk_at "rd"
  refine ⟨by show 6 ≤ sizeLine; decide, fun ma nma => ?_⟩
  have s0 : Same H (upd H ma (.lst marksV)) := Same.new nma _
  have g0 : (upd H ma (.lst marksV)) ma = some (.lst marksV) := upd_same
  change tSeq _ _ _ _ (upd H ma (.lst marksV))
  generalize upd H ma (.lst marksV) = H0 at s0 g0
  have ha0 : SqL K H0 a (ns.map V.int) := by
    rcases ha with (ha | ⟨o, ha⟩) | ha
    · exact .inl (.inl (s0 _ _ ha))
    · exact .inl (.inr ⟨o, s0 _ _ ha⟩)
    · exact .inr ha
  have keepL : ∀ H', Same H0 H' → SqL K H' a (ns.map V.int) := fun H' s => by
    rcases ha0 with (ha | ⟨o, ha⟩) | ha
    · exact .inl (.inl (s _ _ ha))
    · exact .inl (.inr ⟨o, s _ _ ha⟩)
    · exact .inr ha
  walk_at "rd"
  refine rd_atR (by decide) (by decide) (forR (n := 3) (lo := 0) (fun i σ H => ∃ (y2 y3 y4 y5 y6 y7 y8 y9 y10 y11 y12 y13 y14 y15 y16 : Option V),
    σ = [some (.ref a), some (.ref ma), y2, y3, y4, y5, y6, y7, y8, y9, y10, y11, y12, y13, y14, y15, y16, none, none] ∧ Same H0 H)
    ⟨_, _, _, _, _, _, _, _, _, _, _, _, _, _, _, rfl, Same.refl _⟩ ?_ ?_)
  · rintro kk σ H1 hkk ⟨y2, y3, y4, y5, y6, y7, y8, y9, y10, y11, y12, y13, y14, y15, y16, rfl, s1⟩
    walk_at "rd"
    refine ⟨a, ns, _, rfl, keepL _ s1, hl, by omega, by omega, fun m H2 s2 nm m2 => ?_⟩
    have s12 := s1.trans s2
    have nm0 : H0 m = none := by
      cases z : H0 m with
      | none => rfl
      | some o =>
        rw [s1 _ _ z] at nm
        cases nm
    have g2 := s12 _ _ g0
    walk_at "rd"
    refine rd_atR (by decide) (by decide) (forR (n := 6) (lo := 0) (fun i σ H => ∃ (y4 y5 y6 y7 y8 y9 y10 y11 y12 y13 y14 y15 y16 : Option V),
      σ = [some (.ref a), some (.ref ma), some (.int (0 + (kk : Int))), some (.ref m), y4, y5, y6, y7, y8, y9, y10, y11, y12, y13, y14, y15, y16, none, none] ∧ Kp m H2 H ∧ MAt H m (60 * i))
      ⟨_, _, _, _, _, _, _, _, _, _, _, _, _, rfl, Kp.refl, m2⟩ ?_ ?_)
    · rintro tu σ H3 htu ⟨y4, y5, y6, y7, y8, y9, y10, y11, y12, y13, y14, y15, y16, rfl, k3, m3⟩
      have g3 := m2.lst k3 g2
      walk_at "rd"
      refine ⟨m, _, 5, rfl, m3, by omega, by decide, by decide, fun sz H4 sz0 sz1 k4 m4 => ?_⟩
      obtain ⟨size, rfl⟩ : ∃ n : Nat, sz = (n : Int) := ⟨sz.toNat, by omega⟩
      walk_at "rd"
      refine ⟨by show 3 ≤ sizeLine; decide, fun p5 n5 => ?_⟩
      have m5 := m4.same (Same.new n5 (.lst [V.int 3, V.int 3, V.int (10 ^ (30 : Int).toNat)]))
      have k5 : Kp m H4 (upd H4 p5 (.lst [V.int 3, V.int 3, V.int (10 ^ (30 : Int).toNat)])) := Kp.new n5 _
      have h5 : (upd H4 p5 (.lst [V.int 3, V.int 3, V.int (10 ^ (30 : Int).toNat)])) p5 = some (.lst [V.int 3, V.int 3, V.int (10 ^ (30 : Int).toNat)]) := upd_same
      walk_at "rd"
      refine ⟨m, p5, _, _, rfl, m5, by omega, h5, List.cons_ne_nil _ _, by show 3 ≤ 1000; decide, fun v H6 hv k6 m6 => ?_⟩
      obtain ⟨great, rfl, hgr⟩ : ∃ n : Nat, v = .int (n : Int) ∧ n ≤ 10 ^ 30 := by
        simp only [List.mem_cons, List.not_mem_nil, or_false] at hv
        rcases hv with rfl | rfl | rfl
        · exact ⟨3, rfl, by decide⟩
        · exact ⟨3, rfl, by decide⟩
        · exact ⟨10 ^ 30, by rfl, Nat.le_refl _⟩
      have k36 := (k4.trans k5).trans k6
      walk_at "rd"
      refine ⟨m, _, size, great, rfl, m6, by omega, by omega, hgr, fun one xs H7 k7 m7 h7 lx7 low7 => ?_⟩
      walk_at "rd"
      refine ⟨m, _, size, great, rfl, m7, by omega, by omega, hgr, fun two ys H8 k8 m8 h8 ly8 low8 => ?_⟩
      have h78 := m7.seqT k8 h7
      have k38 := (k36.trans k7).trans k8
      have g8 := m3.lst k38 g3
      obtain ⟨v9, e9, e9', _⟩ := atI_in (xs := marksV) (i := 0 + (tu : Int)) (by omega) (by show 0 + (tu : Int) < 6; omega)
      obtain ⟨mk9, rfl⟩ := marks_mem e9'
      walk_at "rd"
      refine rd_ixL (sqL g8) e9 ?_
      walk_at "rd"
      refine ⟨by show 3 ≤ sizeLine; decide, fun p9 n9 => ?_⟩
      have s9 := Same.new n9 (.tup [V.ref one, V.ref two, V.str mk9.str])
      have m9 := m8.same s9
      have k39 := k38.trans (Kp.of (m := m) s9)
      have h9 := s9.seqT h78
      have h89 := s9.seqT h8
      refine rd_gtup (sqT upd_same) rfl ?_
      generalize upd H8 p9 (.tup [V.ref one, V.ref two, V.str mk9.str]) = H9 at m9 k39 h9 h89
      walk_at "rd"
      refine Evl.q_cut (M := fun σ H => ∃ (b : Addr) (zs : List Int) (y5' y6' : Option V), σ = [some (.ref a), some (.ref ma), some (.int (0 + (kk : Int))), some (.ref m), some (.int (0 + (tu : Int))), some (.int (size : Int)), y6', some (.ref one), some (.ref b), some (.str mk9.str), y10, y11, y12, y13, y14, y15, y16, none, none] ∧
        Kp m H3 H ∧ MAt H m (60 * tu + 30) ∧ SqT K H one (xs.map V.int) ∧ SqT K H b (zs.map V.int) ∧ zs.length = size + 1 ∧ Low great zs) ?_ ?_
      · walk_at "rd"
        refine ⟨m, _, 4, rfl, m9, by omega, by decide, by decide, fun r H10 r0 r1 k10 m10 => ?_⟩
        have h910 := m9.seqT k10 h9
        have h810 := m9.seqT k10 h89
        walk_at "rd"
        refine rd_two (fun c => ?_) (fun c => ?_)
        · walk_at "rd"
          exact ⟨one, xs, none, _, rfl, k39.trans k10, m10.mono (by omega), h910, h910, lx7, low7⟩
        · walk_at "rd"
          exact ⟨two, ys, none, _, rfl, k39.trans k10, m10.mono (by omega), h910, h810, ly8, low8⟩
      rintro σ H10 ⟨b, zs, y5', y6', rfl, k310, m10, h1, h2, lz, lowz⟩
      have nx : xs ≠ [] := fun z => by
        rw [z] at lx7
        cases lx7
      have lxz : xs.length = zs.length := lx7.trans lz.symm
      have lq : (quest mk9 xs zs).length = size + 1 := by rw [len_quest mk9 lxz nx, lx7]
      have ll := len_least mk9 lx7 lz lq
      have lm := len_most mk9 lx7 lz lq
      have lowq := low_quest mk9 low7 lowz
      have lowl := low_least mk9 lowq low7 lowz
      have lowm := low_most mk9 lowq low7 lowz
      generalize hql : least mk9 (quest mk9 xs zs) xs zs = ql at ll lowl
      generalize hqm : most mk9 (quest mk9 xs zs) xs zs = qm at lm lowm
      walk_at "rd"
      refine ⟨_, one, b, xs, zs, rfl, h1, h2, lxz, nx, by omega, .inl ⟨mk9, rfl, fun ask H11 s11 hq11 => ?_⟩⟩
      walk_at "rd"
      refine ⟨by show 2 ≤ sizeLine; decide, fun p12 n12 => ?_⟩
      have s12' := s11.trans (Same.new n12 (.lst [V.str (Str.ofString "least"), V.str (Str.ofString "most")]))
      have hq12 := (Same.new n12 (.lst [V.str (Str.ofString "least"), V.str (Str.ofString "most")])).seqT hq11
      have h12 : (upd H11 p12 (.lst [V.str (Str.ofString "least"), V.str (Str.ofString "most")])) p12 = some (.lst [V.str (Str.ofString "least"), V.str (Str.ofString "most")]) := upd_same
      generalize upd H11 p12 (.lst [V.str (Str.ofString "least"), V.str (Str.ofString "most")]) = H12 at s12' hq12 h12
      refine rd_atL (sqL h12) fun D nD => lc_it walk_list (fun i H' => ∃ ts : List Addr, ts.length = i ∧ Same H12 H' ∧ H' D = some (.lst (ts.map V.ref)) ∧
        ∀ j p, ts[j]? = some p → SqT K H' p ((if j = 0 then ql else qm).map V.int)) ?_ (fun i H' _ ⟨ts, _, z, _⟩ => sqL (z _ _ h12)) ?_ ?_
      · exact ⟨[], rfl, Same.new nD _, upd_same, fun j p e => by simp at e⟩
      · rintro i x Ha Hb hi ⟨ts, tl, z, hD, hts⟩ ⟨rfl, ex⟩
        refine ⟨rfl, ?_⟩
        refine rd_yes (iteT ?_)
        have done : ∀ (p : Addr) (Hc : Hp), Same Hb Hc → SqT K Hc p ((if i = 0 then ql else qm).map V.int) → ∃ acc, Hc D = some (.lst acc) ∧ acc.length < sizeLine ∧
            ∃ ts : List Addr, ts.length = i + 1 ∧ Same H12 (upd Hc D (.lst (acc ++ [V.ref p]))) ∧ (upd Hc D (.lst (acc ++ [V.ref p]))) D = some (.lst (ts.map V.ref)) ∧
              ∀ j p', ts[j]? = some p' → SqT K (upd Hc D (.lst (acc ++ [V.ref p]))) p' ((if j = 0 then ql else qm).map V.int) := by
          intro p Hc sc hc
          have hD' := sc _ _ hD
          have keep : ∀ {p' : Addr} {us : List V}, SqT K Hc p' us → SqT K (upd Hc D (.lst (ts.map V.ref ++ [V.ref p]))) p' us := by
            intro p' us h
            rcases h with (h | ⟨o, h⟩) | h
            · exact .inl (.inl (by rw [upd_ne (ne_of h hD' (fun z => nomatch z))]; exact h))
            · exact .inl (.inr ⟨o, by rw [upd_ne (ne_of h hD' (fun z => nomatch z))]; exact h⟩)
            · exact .inr h
          refine ⟨ts.map V.ref, hD', by rw [List.length_map, sizeLine_eq]; have : i < 2 := hi; omega, ts ++ [p], ?_, (z.trans sc).put nD _, ?_, fun j p' e => ?_⟩
          · rw [List.length_append, tl]
            rfl
          · rw [upd_same, List.map_append]
            rfl
          · by_cases hj : j < ts.length
            · rw [List.getElem?_append_left hj] at e
              exact keep (sc.seqT (hts j p' e))
            · rw [List.getElem?_append_right (by omega)] at e
              have hj0 : j - ts.length = 0 := by
                cases hz : j - ts.length with
                | zero => rfl
                | succ n => rw [hz] at e; simp at e
              rw [hj0] at e
              obtain rfl : p = p' := Option.some.inj e
              have hji : j = i := by omega
              rw [hji]
              exact keep hc
        have s1a := (s12'.trans z).seqT h1
        have s2a := (s12'.trans z).seqT h2
        have hi2 : i = 0 ∨ i = 1 := by
          have : i < 2 := hi
          omega
        rcases hi2 with rfl | rfl
        · obtain rfl : V.str (Str.ofString "least") = x := Option.some.inj ex
          walk_at "rd"
          refine ⟨_, _, one, b, xs, zs, rfl, s1a, s2a, lxz, nx, by omega, .inl ⟨mk9, rfl, rfl, fun p Hc sc hc => ?_⟩⟩
          rw [hql] at hc
          exact done p Hc sc hc
        · obtain rfl : V.str (Str.ofString "most") = x := Option.some.inj ex
          walk_at "rd"
          refine ⟨_, _, one, b, xs, zs, rfl, s1a, s2a, lxz, nx, by omega, .inr (.inl ⟨mk9, rfl, rfl, fun p Hc sc hc => ?_⟩)⟩
          rw [hqm] at hc
          exact done p Hc sc hc
      rintro H13 ⟨ts, tl, s13, hD, hts⟩
      obtain ⟨t0, t1, rfl⟩ : ∃ t0 t1, ts = [t0, t1] := match ts, tl with | [x, y], _ => ⟨x, y, rfl⟩
      have ht0 := hts 0 t0 rfl
      have ht1 := hts 1 t1 rfl
      rw [if_pos rfl] at ht0
      rw [if_neg (by decide)] at ht1
      have s13' := s12'.trans s13
      have hq13 := s13.seqT hq12
      walk_at "rd"
      refine rd_ixL (sqL hD) (atI_nat (j := 0) rfl) ?_
      walk_at "rd"
      refine rd_ixL (sqL hD) (atI_nat (j := 1) rfl) ?_
      walk_at "rd"
      refine ⟨by show 3 ≤ sizeLine; decide, fun p14 n14 => ?_⟩
      have s14 := Same.new n14 (.tup [V.ref ask, V.ref t0, V.ref t1])
      have h14 : (upd H13 p14 (.tup [V.ref ask, V.ref t0, V.ref t1])) p14 = some (.tup [V.ref ask, V.ref t0, V.ref t1]) := upd_same
      have s14' := s13'.trans s14
      have hq14 := s14.seqT hq13
      have ht0' := s14.seqT ht0
      have ht1' := s14.seqT ht1
      have hD' := s14 _ _ hD
      generalize upd H13 p14 (.tup [V.ref ask, V.ref t0, V.ref t1]) = H14 at s14' h14 hq14 ht0' ht1' hD'
      walk_at "rd"
      refine ⟨mk9, one, b, xs, zs, rfl, s14'.seqT h1, s14'.seqT h2, lxz, nx, by omega, fun pp q1 q2 q3 H15 s15 hpp hq1 hq2 hq3 => ?_⟩
      rw [hql] at hq2
      rw [hqm] at hq3
      refine rd_neSame (d := .tuple [.tuple ((quest mk9 xs zs).map .int), .tuple (ql.map .int), .tuple (qm.map .int)])
        (.tup (sqT (s15 _ _ h14)) (.cons (.tup (s15.seqT hq14) (dp_ints K _ _)) (.cons (.tup (s15.seqT ht0') (dp_ints K _ _)) (.cons (.tup (s15.seqT ht1') (dp_ints K _ _)) .nil))))
        (.tup (sqT hpp) (.cons (.tup hq1 (dp_ints K _ _)) (.cons (.tup hq2 (dp_ints K _ _)) (.cons (.tup hq3 (dp_ints K _ _)) .nil)))) ?_ ?_ ?_
      · simp only [PyData.canLay0, PyData.canLayAll0, lay_ints]
        rfl
      · simp only [PyData.depth, PyData.depthAll, depth_intL]
        decide
      have hq15 := s15.seqT hq14
      have ht0a := s15.seqT ht0'
      have ht1a := s15.seqT ht1'
      have hD15 := s15 _ _ hD'
      have s15' := s14'.trans s15
      walk_at "rd"
      refine iteF ?_
      walk_at "rd"
      refine rd_ixL (sqL hD15) (atI_nat (j := 0) rfl) ?_
      have qne : (quest mk9 xs zs).map V.int ≠ [] := fun z => by
        rw [List.map_eq_nil_iff.mp z] at lq
        cases lq
      refine rd_catT hq15 ht0a qne (by rw [List.length_map, List.length_map]; omega) fun c1 H16 s16 h16 => ?_
      walk_at "rd"
      refine rd_ixL (sqL (s16 _ _ hD15)) (atI_nat (j := 1) rfl) ?_
      refine rd_catT h16 (s16.seqT ht1a) (fun z => qne (List.append_eq_nil_iff.mp z).1) (by rw [List.length_append, List.length_map, List.length_map, List.length_map]; omega) fun c2 H17 s17 h17 => ?_
      rw [← List.map_append, ← List.map_append] at h17
      generalize hL : (quest mk9 xs zs ++ ql) ++ qm = L at h17
      have lL : L.length ≤ 1000 := by
        rw [← hL, List.length_append, List.length_append]
        omega
      have s17' := (s15'.trans s16).trans s17
      have hq17 := s17.seqT (s16.seqT hq15)
      have ht0b := s17.seqT (s16.seqT ht0a)
      have ht1b := s17.seqT (s16.seqT ht1a)
      have hD17 := s17 _ _ (s16 _ _ hD15)
      refine rd_atT h17 fun D2 nD2 => lc_src walk_tup (fun i => (L.map V.int).getD i .non) ?_ (fun _ => true) (fun _ => V.bl true) (by rw [List.length_map]; omega) nD2 (fun H2 z => z.seqT h17) (fun x => rfl) ?_ ?_ ?_
      · rintro i H0 x H2 hi ⟨rfl, e⟩
        rw [List.getD_eq_getElem?_getD, e]
        exact ⟨rfl, rfl⟩
      · intro i H2 R hi z r
        exact rd_yes r
      · intro i H2 R hi hf z r
        have e : (L.map V.int).getD i .non = V.int (L.getD i 0) := by
          rw [List.length_map] at hi
          rw [List.getD_eq_getElem?_getD, List.getD_eq_getElem?_getD, List.getElem?_map, List.getElem?_eq_getElem hi]
          rfl
        rw [e]
        walk_at "rd"
        exact ⟨_, rfl, r H2 (Same.refl _)⟩
      intro H18 s18 g18
      have e18 : Evl.given (L.map V.int).length (fun _ => true) (fun _ => V.bl true) = (List.replicate L.length true).map V.bl := by
        unfold Evl.given
        rw [List.filter_eq_self.mpr (fun _ _ => rfl), List.length_map, List.map_replicate]
        exact List.ext_getElem (by simp) (by simp)
      rw [e18] at g18
      walk_at "rd"
      refine ⟨D2, _, rfl, sqL g18, ?_⟩
      rw [all_true]
      walk_at "rd"
      refine iteF ?_
      have s18' := s17'.trans s18
      have hq18 := s18.seqT hq17
      have ht0c := s18.seqT ht0b
      have ht1c := s18.seqT ht1b
      have hD18 := s18 _ _ hD17
      have m18 := m10.same s18'
      have h1c := s18'.seqT h1
      have h2c := s18'.seqT h2
      walk_at "rd"
      refine ⟨m, _, 9, rfl, m18, by omega, by decide, by decide, fun r19 H19 r190 r191 k19 m19 => ?_⟩
      obtain ⟨wn, hwn⟩ : ∃ n : Nat, 1 + r19 = ((n + 1 : Nat) : Int) := ⟨r19.toNat, by omega⟩
      have hwn8 : wn ≤ 8 := by omega
      refine rd_i0 ?_
      rw [hwn]
      have hq19 := m18.seqT k19 hq18
      have ht0d := m18.seqT k19 ht0c
      have ht1d := m18.seqT k19 ht1c
      have hD19 := m18.lst k19 hD18
      have h1d := m18.seqT k19 h1c
      have h2d := m18.seqT k19 h2c
      have k1019 : Kp m H10 H19 := (Kp.of s18').trans k19
      walk_at "rd"
      refine ⟨by show 1 ≤ sizeLine; decide, fun p20 n20 => ?_⟩
      have s20 := Same.new n20 (.lst [V.int ((wn + 1 : Nat) : Int)])
      have g20 : (upd H19 p20 (.lst [V.int ((wn + 1 : Nat) : Int)])) p20 = some (.lst [V.int ((wn + 1 : Nat) : Int)]) := upd_same
      have m20 := m19.same s20
      generalize upd H19 p20 (.lst [V.int ((wn + 1 : Nat) : Int)]) = H20 at s20 g20 m20
      obtain ⟨cc, hcc, o, hco⟩ := m20.cel
      obtain ⟨kvs, hmd⟩ := m20.dict
      walk_at "rd"
      refine rd_atR (by omega) (by omega) fun p21 n21 => lc_it walk_range (fun i H' => ∃ ds : List Int, ds.length = i ∧ Low 10 ds ∧ Kp m H20 H' ∧ MAt H' m (60 * tu + 31 + i) ∧ Cel H' m cc ∧ H' p21 = some (.lst (ds.map V.int))) ?_ (fun i H' _ _ => trivial) ?_ ?_
      · refine ⟨[], rfl, (fun x h => nomatch h), Kp.new n21 _, m20.same (Same.new n21 _), ?_, upd_same⟩
        obtain ⟨l, s, q, e⟩ := hcc
        exact ⟨l, s, q, Same.new n21 _ _ _ e⟩
      · rintro i x Ha Hb hi ⟨ds, hxl, low, kp, mat, cel, hp⟩ ⟨rfl, rfl⟩
        have hi4 : i < 5 := by omega
        refine ⟨rfl, ?_⟩
        refine rd_yes (iteT ?_)
        walk_at "rd"
        refine ⟨m, _, ((wn + 1 : Nat) : Int) + 1, rfl, mat, by omega, by omega, Int.lt_of_le_of_lt (show ((wn + 1 : Nat) : Int) + 1 ≤ 10 by omega) (by decide), fun r H2 r0 r1 k2 m2 c2 => ?_⟩
        walk_at "rd"
        have hp2 := mat.lst k2 hp
        refine ⟨_, hp2, by rw [List.length_map, sizeLine_eq]; omega, ds ++ [r], ?_, ?_, ?_, ?_, ?_, ?_⟩
        · rw [List.length_append, hxl]
          rfl
        · intro y hy
          rcases List.mem_append.mp hy with hy | hy
          · exact low y hy
          · obtain rfl := List.mem_singleton.mp hy
            omega
        · exact (kp.trans k2).put' n21 _
        · refine m2.upd (c2 _ cel) (fun z => ?_) (fun z => ?_) _
          · subst z
            rw [n21] at hmd
            cases hmd
          · subst z
            rw [n21] at hco
            cases hco
        · obtain ⟨l, s, q, e⟩ := c2 _ cel
          refine ⟨l, s, q, ?_⟩
          rw [upd_ne (fun z => ?_)]
          · exact e
          · subst z
            rw [n21] at hmd
            cases hmd
        · rw [upd_same, List.map_append]
          rfl
      rintro H21 ⟨ds, hdl, lowd, k21, m21, _, hp21⟩
      have szn : (size : Int).toNat = size := Int.toNat_natCast size
      rw [szn] at hdl m21
      refine rd_cat (m20.lst k21 g20) hp21 (by rw [List.length_map]; show 1 + ds.length ≤ 1000000; omega) fun p22 n22 => ?_
      walk_at "rd"
      refine ⟨p22, _, rfl, .inl ⟨sqL upd_same, fun sp nsp => ?_⟩⟩
      have s22 := (Same.new n22 (.lst ([V.int ((wn + 1 : Nat) : Int)] ++ ds.map V.int))).trans (Same.new nsp (.tup ([V.int ((wn + 1 : Nat) : Int)] ++ ds.map V.int)))
      have hsp : SqT K (upd (upd H21 p22 (.lst ([V.int ((wn + 1 : Nat) : Int)] ++ ds.map V.int))) sp (.tup ([V.int ((wn + 1 : Nat) : Int)] ++ ds.map V.int))) sp ((((wn + 1 : Nat) : Int) :: ds).map V.int) := sqT upd_same
      have m22 := m21.same s22
      have k22 : Kp m H20 (upd (upd H21 p22 (.lst ([V.int ((wn + 1 : Nat) : Int)] ++ ds.map V.int))) sp (.tup ([V.int ((wn + 1 : Nat) : Int)] ++ ds.map V.int))) := k21.trans (Kp.of s22)
      generalize upd (upd H21 p22 (.lst ([V.int ((wn + 1 : Nat) : Int)] ++ ds.map V.int))) sp (.tup ([V.int ((wn + 1 : Nat) : Int)] ++ ds.map V.int)) = H22 at hsp m22 k22
      have hq22 := m20.seqT k22 (s20.seqT hq19)
      have ht022 := m20.seqT k22 (s20.seqT ht0d)
      have ht122 := m20.seqT k22 (s20.seqT ht1d)
      have hD22 := m20.lst k22 (s20 _ _ hD19)
      have h122 := m20.seqT k22 (s20.seqT h1d)
      have h222 := m20.seqT k22 (s20.seqT h2d)
      have k1022 : Kp m H10 H22 := (k1019.trans (Kp.of s20)).trans k22
      generalize hwi : ((wn + 1 : Nat) : Int) = wi at hsp
      have lowsp : Low (10 ^ 39) (wi :: ds) := by
        intro x hx
        rcases List.mem_cons.mp hx with rfl | hx
        · exact Nat.le_trans (show x.natAbs ≤ 10 by omega) (by decide)
        · exact Nat.le_trans (lowd x hx) (by decide)
      have lx1 : xs.length = ds.length + 1 := by omega
      have lz1 : zs.length = ds.length + 1 := by omega
      have lq1 : (quest mk9 xs zs).length = (wi :: ds).length := by rw [List.length_cons]; omega
      have ll1 : ql.length = (wi :: ds).length := by rw [List.length_cons]; omega
      have lm1 : qm.length = (wi :: ds).length := by rw [List.length_cons]; omega
      have big : great + great + 2 ≤ 10 ^ 39 := Nat.le_trans (show great + great + 2 ≤ 10 ^ 30 + 10 ^ 30 + 2 by omega) (by decide)
      walk_at "rd"
      refine ⟨one, sp, xs, wi :: ds, rfl, h122, hsp, by rw [List.length_cons]; exact lx1, by omega, low_mono low7 (by omega), lowsp, fun H23 s23 => ?_⟩
      walk_at "rd"
      refine ⟨b, sp, zs, wi :: ds, rfl, s23.seqT h222, s23.seqT hsp, by rw [List.length_cons]; exact lz1, by omega, low_mono lowz (by omega), lowsp, fun H24 s24 => ?_⟩
      walk_at "rd"
      refine ⟨mk9, _, _, _, rfl, fun H25 s25 => ?_⟩
      have s25' := (s23.trans s24).trans s25
      walk_at "rd"
      have hsp25 := s25'.seqT hsp
      have hq25 := s25'.seqT hq22
      have ht025 := s25'.seqT ht022
      have ht125 := s25'.seqT ht122
      have hD25 := s25' _ _ hD22
      have h125 := s25'.seqT h122
      have h225 := s25'.seqT h222
      have m25 := m22.same s25'
      have k1025 := k1022.trans (Kp.of s25')
      have sl := side_least (k := mk9) (w := wi) lx1 lz1
      have sm := side_most (k := mk9) (w := wi) lx1 lz1
      rw [hql] at sl
      rw [hqm] at sm
      refine Evl.q_cut (M := fun σ H => σ = [some (.ref a), some (.ref ma), some (.int (0 + (kk : Int))), some (.ref m), some (.int (0 + (tu : Int))), some (.int (size : Int)), y6', some (.ref one), some (.ref b), some (.str mk9.str),
        some (.ref ask), some (.ref D), some (.int wi), some (.ref sp), some (.int (given mk9 (dot xs (wi :: ds)) (dot zs (wi :: ds)) wi)), y15, y16, none, none] ∧ Same H25 H) ?_ ?_
      · walk_at "rd"
        refine ⟨ask, sp, _, wi :: ds, rfl, hq25, hsp25, lq1, by omega, low_mono lowq (by omega), lowsp, fun H26 s26 => ?_⟩
        walk_at "rd"
        refine rd_two (fun c => ?_) (fun c => ?_)
        · walk_at "rd"
          refine rd_ixL (sqL (s26 _ _ hD25)) (atI_nat (j := 0) rfl) ?_
          walk_at "rd"
          refine ⟨t0, sp, ql, wi :: ds, rfl, s26.seqT ht025, s26.seqT hsp25, ll1, by omega, low_mono lowl (by omega), lowsp, fun H27 s27 => ?_⟩
          rw [sl c]
          walk_at "rd"
          refine rd_neq ?_
          walk_at "rd"
          exact ⟨rfl, s26.trans s27⟩
        · walk_at "rd"
          refine iteF ?_
          walk_at "rd"
          exact ⟨rfl, s26⟩
      rintro σ H26 ⟨rfl, s26⟩
      refine Evl.q_cut (M := fun σ H => σ = [some (.ref a), some (.ref ma), some (.int (0 + (kk : Int))), some (.ref m), some (.int (0 + (tu : Int))), some (.int (size : Int)), y6', some (.ref one), some (.ref b), some (.str mk9.str),
        some (.ref ask), some (.ref D), some (.int wi), some (.ref sp), some (.int (given mk9 (dot xs (wi :: ds)) (dot zs (wi :: ds)) wi)), y15, y16, none, none] ∧ Same H25 H) ?_ ?_
      · walk_at "rd"
        refine ⟨ask, sp, _, wi :: ds, rfl, s26.seqT hq25, s26.seqT hsp25, lq1, by omega, low_mono lowq (by omega), lowsp, fun H27 s27 => ?_⟩
        have s27' := s26.trans s27
        walk_at "rd"
        refine rd_two (fun c => ?_) (fun c => ?_)
        · walk_at "rd"
          refine rd_ixL (sqL (s27' _ _ hD25)) (atI_nat (j := 1) rfl) ?_
          walk_at "rd"
          refine ⟨t1, sp, qm, wi :: ds, rfl, s27'.seqT ht125, s27'.seqT hsp25, lm1, by omega, low_mono lowm (by omega), lowsp, fun H28 s28 => ?_⟩
          rw [sm c]
          walk_at "rd"
          refine rd_neq ?_
          walk_at "rd"
          exact ⟨rfl, s27'.trans s28⟩
        · walk_at "rd"
          refine iteF ?_
          walk_at "rd"
          exact ⟨rfl, s27'⟩
      rintro σ H27 ⟨rfl, s27⟩
      have m27 := m25.same s27
      have h127 := s27.seqT h125
      have h227 := s27.seqT h225
      have k1027 := k1025.trans (Kp.of s27)
      walk_at "rd"
      refine ⟨by show 9 ≤ sizeLine; decide, fun p28 n28 => ?_⟩
      have s28 := Same.new n28 (.lst oddsV)
      have h28 : (upd H27 p28 (.lst oddsV)) p28 = some (.lst oddsV) := upd_same
      walk_at "rd"
      refine ⟨m, p28, _, oddsV, rfl, m27.same s28, by omega, h28, List.cons_ne_nil _ _, by show 9 ≤ 1000; decide, fun v H29 hv k29 m29 => ?_⟩
      obtain ⟨odd, rfl, hno, hok⟩ := odds_ok hv
      have h129 := m27.seqT ((Kp.of s28).trans k29) h127
      have h229 := m27.seqT ((Kp.of s28).trans k29) h227
      have k1029 := (k1027.trans (Kp.of s28)).trans k29
      walk_at "rd"
      refine ⟨odd, one, b, xs, zs, rfl, h129, h229, lxz, nx, by omega, hno, hok, fun H30 s30 => ?_⟩
      walk_at "rd"
      refine iteF ?_
      walk_at "rd"
      refine ⟨by show 6 ≤ sizeLine; decide, fun p31 n31 => ?_⟩
      have s31 := Same.new n31 (.lst sidesOddV)
      have h31 : (upd H30 p31 (.lst sidesOddV)) p31 = some (.lst sidesOddV) := upd_same
      have m30 := m29.same s30
      walk_at "rd"
      refine ⟨m, p31, _, sidesOddV, rfl, m30.same s31, by omega, h31, List.cons_ne_nil _ _, by show 6 ≤ 1000; decide, fun v H32 hv k32 m32 => ?_⟩
      obtain ⟨side, rfl, hno2, hok2⟩ := sidesOdd_ok hv
      have k3032 := (Kp.of (m := m) s31).trans k32
      have h132 := m30.seqT k3032 (s30.seqT h129)
      have h232 := m30.seqT k3032 (s30.seqT h229)
      have k1032 := (k1029.trans (Kp.of s30)).trans k3032
      walk_at "rd"
      refine ⟨_, side, one, b, xs, zs, rfl, h132, h232, lxz, nx, by omega, .inl ⟨mk9, rfl, hno2, fun p33 H33 s33 h33 => ?_⟩⟩
      walk_at "rd"
      refine ⟨by show 2 ≤ sizeLine; decide, fun p34 n34 => ?_⟩
      have s34 := Same.new n34 (.lst [V.str (Str.ofString "WrongMark"), V.str side])
      refine rd_ne2 (s34 _ _ h33) upd_same (by decide +kernel) hok2 ?_
      walk_at "rd"
      refine iteF ?_
      walk_at "rd"
      refine ⟨_, _, _, _, _, _, _, _, _, _, _, _, _, rfl, (k3.trans k310).trans (k1032.trans (Kp.of (s33.trans s34))), (m32.same (s33.trans s34)).mono (by omega)⟩
    · rintro σ H3 ⟨y4, y5, y6, y7, y8, y9, y10, y11, y12, y13, y14, y15, y16, rfl, k3, m3⟩
      exact ⟨_, _, _, _, _, _, _, _, _, _, _, _, _, _, _, rfl, same_kp s12 nm0 k3⟩
  · rintro σ H1 ⟨y2, y3, y4, y5, y6, y7, y8, y9, y10, y11, y12, y13, y14, y15, y16, rfl, s1⟩
    walk_at "rd"
    exact q H1
end

theorem exm_of {K : PySem.W.Frag} {cls : Value} {D : Addr} {b : Bool} (hc : (PySem.W.clsIn K D).isSome = true) (ht : PySem.W.typeIn K (.ref D) = some (.type "type")) (hb : PySem.W.subIn K (.ref D) (.type "BaseException") = some true)
    (e : PySem.W.subIn K cls (.ref D) = some b) : PySem.W.exmOne K cls (.ref D) = some b := by
  unfold PySem.W.exmOne
  rw [hb, if_pos (by decide)]
  unfold PySem.W.kitCls
  dsimp only
  rw [hc, ht, if_pos (by decide)]
  exact e
theorem clsIn_exc {K : PySem.W.Frag} {nm q : Str} {C N : Addr} {bs bm : List Value} {hdct : Bool} {sn : List Str} {sub : List Value} {ab : Bool} {col : Option Bool} {dd : Option Addr} {k0 k1 k2 k3 k5 : Option Value} {newId : String}
    (h : K.lookup C = some (excClassObj nm q C N bs bm hdct sn sub ab col dd k0 k1 k2 k3 k5 newId)) : (PySem.W.clsIn K C).isSome = true := by
  unfold PySem.W.clsIn
  rw [h]
  rfl

theorem all_mk {l : PySem.W.OpenLaw} {w : World} {K : PySem.W.Frag} {h : Heap} {mg : Str → Option Value} {fa f1 f2 f3 f4 f5 f6 f7 f8 f9 f10 f11 f12 f13 f14 f15 f16 f17 f18 f19 f20 f21 : Addr} (X : K.In h) (G : h.Ns mainGlobals mg) (hfa : mg "law" = some (.ref fa))
    {od1 an1 od2 an2 od3 an3 od4 an4 od5 an5 od6 an6 od7 an7 od8 an8 od9 an9 od10 an10 od11 an11 od12 an12 od13 an13 od14 an14 od15 an15 od16 an16 od17 an17 od18 an18 od19 an19 od20 an20 od21 an21 : Option Addr} {sl1 sl2 sl3 sl4 sl5 sl6 sl7 sl8 sl9 sl10 sl11 sl12 sl13 sl14 sl15 sl16 sl17 sl18 sl19 sl20 sl21 : Array (Option Value)}
    {oc1 kV1 dc1 pm1 cd1 ct1 oc2 kV2 dc2 pm2 cd2 ct2 oc3 kV3 dc3 pm3 cd3 ct3 oc4 kV4 dc4 pm4 cd4 ct4 oc5 kV5 dc5 pm5 cd5 ct5 oc6 kV6 dc6 pm6 cd6 ct6 oc7 kV7 dc7 pm7 cd7 ct7 oc8 kV8 dc8 pm8 cd8 ct8 oc9 kV9 dc9 pm9 cd9 ct9 oc10 kV10 dc10 pm10 cd10 ct10 oc11 kV11 dc11 pm11 cd11 ct11 oc12 kV12 dc12 pm12 cd12 ct12 oc13 kV13 dc13 pm13 cd13 ct13 oc14 kV14 dc14 pm14 cd14 ct14 oc15 kV15 dc15 pm15 cd15 ct15 oc16 kV16 dc16 pm16 cd16 ct16 oc17 kV17 dc17 pm17 cd17 ct17 oc18 kV18 dc18 pm18 cd18 ct18 oc19 kV19 dc19 pm19 cd19 ct19 oc20 kV20 dc20 pm20 cd20 ct20 oc21 kV21 dc21 pm21 cd21 ct21 : Value}
    (a1 : PySem.W.nsIn K mainGlobals "constant" = some (some (.ref f1)))
    (l1 : K.lookup f1 = some ⟨oc1, od1, .func (PySem.W.fnOf "constant" "constant" (defArgs s_constant) (defBody s_constant) (defScope s_constant) .none kV1 dc1 pm1 an1 cd1 ct1), sl1⟩)
    (c1 : PySem.W.codeIn K cd1 "constant" = true) (k1 : PySem.W.keepIn K (.ref f1) = true)
    (a2 : PySem.W.nsIn K mainGlobals "added" = some (some (.ref f2)))
    (l2 : K.lookup f2 = some ⟨oc2, od2, .func (PySem.W.fnOf "added" "added" (defArgs s_added) (defBody s_added) (defScope s_added) .none kV2 dc2 pm2 an2 cd2 ct2), sl2⟩)
    (c2 : PySem.W.codeIn K cd2 "added" = true) (k2 : PySem.W.keepIn K (.ref f2) = true)
    (a3 : PySem.W.nsIn K mainGlobals "less" = some (some (.ref f3)))
    (l3 : K.lookup f3 = some ⟨oc3, od3, .func (PySem.W.fnOf "less" "less" (defArgs s_less) (defBody s_less) (defScope s_less) .none kV3 dc3 pm3 an3 cd3 ct3), sl3⟩)
    (c3 : PySem.W.codeIn K cd3 "less" = true) (k3 : PySem.W.keepIn K (.ref f3) = true)
    (a4 : PySem.W.nsIn K mainGlobals "opposite" = some (some (.ref f4)))
    (l4 : K.lookup f4 = some ⟨oc4, od4, .func (PySem.W.fnOf "opposite" "opposite" (defArgs s_opposite) (defBody s_opposite) (defScope s_opposite) .none kV4 dc4 pm4 an4 cd4 ct4), sl4⟩)
    (c4 : PySem.W.codeIn K cd4 "opposite" = true) (k4 : PySem.W.keepIn K (.ref f4) = true)
    (a5 : PySem.W.nsIn K mainGlobals "one_less" = some (some (.ref f5)))
    (l5 : K.lookup f5 = some ⟨oc5, od5, .func (PySem.W.fnOf "one_less" "one_less" (defArgs s_one_less) (defBody s_one_less) (defScope s_one_less) .none kV5 dc5 pm5 an5 cd5 ct5), sl5⟩)
    (c5 : PySem.W.codeIn K cd5 "one_less" = true) (k5 : PySem.W.keepIn K (.ref f5) = true)
    (a6 : PySem.W.nsIn K mainGlobals "question_of" = some (some (.ref f6)))
    (l6 : K.lookup f6 = some ⟨oc6, od6, .func (PySem.W.fnOf "question_of" "question_of" (defArgs s_question_of) (defBody s_question_of) (defScope s_question_of) .none kV6 dc6 pm6 an6 cd6 ct6), sl6⟩)
    (c6 : PySem.W.codeIn K cd6 "question_of" = true) (k6 : PySem.W.keepIn K (.ref f6) = true)
    (a7 : PySem.W.nsIn K mainGlobals "form_by_side" = some (some (.ref f7)))
    (l7 : K.lookup f7 = some ⟨oc7, od7, .func (PySem.W.fnOf "form_by_side" "form_by_side" (defArgs s_form_by_side) (defBody s_form_by_side) (defScope s_form_by_side) .none kV7 dc7 pm7 an7 cd7 ct7), sl7⟩)
    (c7 : PySem.W.codeIn K cd7 "form_by_side" = true) (k7 : PySem.W.keepIn K (.ref f7) = true)
    (a8 : PySem.W.nsIn K mainGlobals "_least_form" = some (some (.ref f8)))
    (l8 : K.lookup f8 = some ⟨oc8, od8, .func (PySem.W.fnOf "_least_form" "_least_form" (defArgs s_least_form) (defBody s_least_form) (defScope s_least_form) .none kV8 dc8 pm8 an8 cd8 ct8), sl8⟩)
    (c8 : PySem.W.codeIn K cd8 "_least_form" = true) (k8 : PySem.W.keepIn K (.ref f8) = true)
    (a9 : PySem.W.nsIn K mainGlobals "_most_form" = some (some (.ref f9)))
    (l9 : K.lookup f9 = some ⟨oc9, od9, .func (PySem.W.fnOf "_most_form" "_most_form" (defArgs s_most_form) (defBody s_most_form) (defScope s_most_form) .none kV9 dc9 pm9 an9 cd9 ct9), sl9⟩)
    (c9 : PySem.W.codeIn K cd9 "_most_form" = true) (k9 : PySem.W.keepIn K (.ref f9) = true)
    (a10 : PySem.W.nsIn K mainGlobals "_law_begun" = some (some (.ref f10)))
    (l10 : K.lookup f10 = some ⟨oc10, od10, .func (PySem.W.fnOf "_law_begun" "_law_begun" (defArgs s_law_begun) (defBody s_law_begun) (defScope s_law_begun) .none kV10 dc10 pm10 an10 cd10 ct10), sl10⟩)
    (c10 : PySem.W.codeIn K cd10 "_law_begun" = true) (k10 : PySem.W.keepIn K (.ref f10) = true)
    (a11 : PySem.W.nsIn K mainGlobals "_law_draw" = some (some (.ref f11)))
    (l11 : K.lookup f11 = some ⟨oc11, od11, .func (PySem.W.fnOf "_law_draw" "_law_draw" (defArgs s_law_draw) (defBody s_law_draw) (defScope s_law_draw) .none kV11 dc11 pm11 an11 cd11 ct11), sl11⟩)
    (c11 : PySem.W.codeIn K cd11 "_law_draw" = true) (k11 : PySem.W.keepIn K (.ref f11) = true)
    (a12 : PySem.W.nsIn K mainGlobals "_law_of" = some (some (.ref f12)))
    (l12 : K.lookup f12 = some ⟨oc12, od12, .func (PySem.W.fnOf "_law_of" "_law_of" (defArgs s_law_of) (defBody s_law_of) (defScope s_law_of) .none kV12 dc12 pm12 an12 cd12 ct12), sl12⟩)
    (c12 : PySem.W.codeIn K cd12 "_law_of" = true) (k12 : PySem.W.keepIn K (.ref f12) = true)
    (a13 : PySem.W.nsIn K mainGlobals "_law_whole" = some (some (.ref f13)))
    (l13 : K.lookup f13 = some ⟨oc13, od13, .func (PySem.W.fnOf "_law_whole" "_law_whole" (defArgs s_law_whole) (defBody s_law_whole) (defScope s_law_whole) .none kV13 dc13 pm13 an13 cd13 ct13), sl13⟩)
    (c13 : PySem.W.codeIn K cd13 "_law_whole" = true) (k13 : PySem.W.keepIn K (.ref f13) = true)
    (a14 : PySem.W.nsIn K mainGlobals "_law_less" = some (some (.ref f14)))
    (l14 : K.lookup f14 = some ⟨oc14, od14, .func (PySem.W.fnOf "_law_less" "_law_less" (defArgs s_law_less) (defBody s_law_less) (defScope s_law_less) .none kV14 dc14 pm14 an14 cd14 ct14), sl14⟩)
    (c14 : PySem.W.codeIn K cd14 "_law_less" = true) (k14 : PySem.W.keepIn K (.ref f14) = true)
    (a15 : PySem.W.nsIn K mainGlobals "_law_ask" = some (some (.ref f15)))
    (l15 : K.lookup f15 = some ⟨oc15, od15, .func (PySem.W.fnOf "_law_ask" "_law_ask" (defArgs s_law_ask) (defBody s_law_ask) (defScope s_law_ask) .none kV15 dc15 pm15 an15 cd15 ct15), sl15⟩)
    (c15 : PySem.W.codeIn K cd15 "_law_ask" = true) (k15 : PySem.W.keepIn K (.ref f15) = true)
    (a16 : PySem.W.nsIn K mainGlobals "_law_on" = some (some (.ref f16)))
    (l16 : K.lookup f16 = some ⟨oc16, od16, .func (PySem.W.fnOf "_law_on" "_law_on" (defArgs s_law_on) (defBody s_law_on) (defScope s_law_on) .none kV16 dc16 pm16 an16 cd16 ct16), sl16⟩)
    (c16 : PySem.W.codeIn K cd16 "_law_on" = true) (k16 : PySem.W.keepIn K (.ref f16) = true)
    (a17 : PySem.W.nsIn K mainGlobals "_law_form" = some (some (.ref f17)))
    (l17 : K.lookup f17 = some ⟨oc17, od17, .func (PySem.W.fnOf "_law_form" "_law_form" (defArgs s_law_form) (defBody s_law_form) (defScope s_law_form) .none kV17 dc17 pm17 an17 cd17 ct17), sl17⟩)
    (c17 : PySem.W.codeIn K cd17 "_law_form" = true) (k17 : PySem.W.keepIn K (.ref f17) = true)
    (a18 : PySem.W.nsIn K mainGlobals "_law_given" = some (some (.ref f18)))
    (l18 : K.lookup f18 = some ⟨oc18, od18, .func (PySem.W.fnOf "_law_given" "_law_given" (defArgs s_law_given) (defBody s_law_given) (defScope s_law_given) .none kV18 dc18 pm18 an18 cd18 ct18), sl18⟩)
    (c18 : PySem.W.codeIn K cd18 "_law_given" = true) (k18 : PySem.W.keepIn K (.ref f18) = true)
    (a19 : PySem.W.nsIn K mainGlobals "_law_tried" = some (some (.ref f19)))
    (l19 : K.lookup f19 = some ⟨oc19, od19, .func (PySem.W.fnOf "_law_tried" "_law_tried" (defArgs s_law_tried) (defBody s_law_tried) (defScope s_law_tried) .none kV19 dc19 pm19 an19 cd19 ct19), sl19⟩)
    (c19 : PySem.W.codeIn K cd19 "_law_tried" = true) (k19 : PySem.W.keepIn K (.ref f19) = true)
    (a20 : PySem.W.nsIn K mainGlobals "_law_refused" = some (some (.ref f20)))
    (l20 : K.lookup f20 = some ⟨oc20, od20, .func (PySem.W.fnOf "_law_refused" "_law_refused" (defArgs s_law_refused) (defBody s_law_refused) (defScope s_law_refused) .none kV20 dc20 pm20 an20 cd20 ct20), sl20⟩)
    (c20 : PySem.W.codeIn K cd20 "_law_refused" = true) (k20 : PySem.W.keepIn K (.ref f20) = true)
    (a21 : PySem.W.nsIn K mainGlobals "law" = some (some (.ref f21)))
    (l21 : K.lookup f21 = some ⟨oc21, od21, .func (PySem.W.fnOf "law" "law" (defArgs s_law) (defBody s_law) (defScope s_law) .none kV21 dc21 pm21 an21 cd21 ct21), sl21⟩)
    (c21 : PySem.W.codeIn K cd21 "law" = true) (k21 : PySem.W.keepIn K (.ref f21) = true)
    {C_WrongMark : Addr} (m_WrongMark : PySem.W.nsIn K mainGlobals "WrongMark" = some (some (.ref C_WrongMark)))
    {nm_WrongMark qn_WrongMark : Str} {N_WrongMark : Addr} {bs_WrongMark bm_WrongMark : List Value} {sn_WrongMark : List Str} {sub_WrongMark : List Value} {ab_WrongMark : Bool} {col_WrongMark : Option Bool} {dd_WrongMark : Option Addr} {k0_WrongMark k1_WrongMark k2_WrongMark k3_WrongMark k5_WrongMark : Option Value}
    (l_WrongMark : K.lookup C_WrongMark = some (excClassObj nm_WrongMark qn_WrongMark C_WrongMark N_WrongMark bs_WrongMark bm_WrongMark true sn_WrongMark sub_WrongMark ab_WrongMark col_WrongMark dd_WrongMark k0_WrongMark k1_WrongMark k2_WrongMark k3_WrongMark k5_WrongMark "ValueError.__new__"))
    (h_WrongMark : PySem.HandSPX.refsVE bm_WrongMark = true)
    (sa_WrongMark : PySem.W.findIn K (.ref C_WrongMark) "__setattr__" = some (some (.builtin "object.__setattr__")))
    (xc_WrongMark : PySem.W.subIn K (.ref C_WrongMark) (.type "BaseException") = some true) (ty_WrongMark : PySem.W.typeIn K (.ref C_WrongMark) = some (.type "type")) (kp_WrongMark : PySem.W.keepIn K (.ref C_WrongMark) = true)
    (ga_WrongMark : PySem.W.findIn K (.ref C_WrongMark) "__getattribute__" = some (some (.builtin "BaseException.__getattribute__"))) (gg_WrongMark : PySem.W.findIn K (.ref C_WrongMark) "__getattr__" = some none) (hd_WrongMark : PySem.W.hasDictIn K C_WrongMark = true)
    {f_WrongMark_init : Addr} (i_WrongMark : PySem.W.findIn K (.ref C_WrongMark) "__init__" = some (some (.ref f_WrongMark_init))) (t_WrongMark : PySem.W.typeIn K (.ref f_WrongMark_init) = some (.type "function"))
    {od_WrongMark_init an_WrongMark_init : Option Addr} {sl_WrongMark_init : Array (Option Value)} {oc_WrongMark_init kV_WrongMark_init dc_WrongMark_init pm_WrongMark_init ct_WrongMark_init : Value}
    {ca_WrongMark_init cc_WrongMark_init : Addr} {cl_WrongMark_init cv_WrongMark_init : Value} {ce_WrongMark_init cf_WrongMark_init : Option Addr} {cs_WrongMark_init ct2_WrongMark_init : Array (Option Value)} {vs_WrongMark_init : Array Value} {fl_WrongMark_init : Str} {tf_WrongMark_init : Tok}
    (l_WrongMark_init : K.lookup f_WrongMark_init = some ⟨oc_WrongMark_init, od_WrongMark_init, .func (PySem.W.ksFn "__init__" "WrongMark.__init__" (defArgs s_WrongMark_init) (defBody s_WrongMark_init) (defScope s_WrongMark_init) .none kV_WrongMark_init dc_WrongMark_init pm_WrongMark_init an_WrongMark_init (.ref ca_WrongMark_init) ct_WrongMark_init cc_WrongMark_init), sl_WrongMark_init⟩)
    (c_WrongMark_init : PySem.W.codeIn K (.ref ca_WrongMark_init) "WrongMark.__init__" = true) (k_WrongMark_init : PySem.W.keepIn K (.ref f_WrongMark_init) = true)
    (lc_WrongMark_init : K.lookup cc_WrongMark_init = some ⟨cl_WrongMark_init, ce_WrongMark_init, .cell (some (.ref C_WrongMark)), cs_WrongMark_init⟩) (lv_WrongMark_init : K.lookup ca_WrongMark_init = some ⟨cv_WrongMark_init, cf_WrongMark_init, .fields vs_WrongMark_init, ct2_WrongMark_init⟩) (v2_WrongMark_init : vs_WrongMark_init[2]? = some (.str fl_WrongMark_init tf_WrongMark_init)) (fe_WrongMark_init : ((l.prog.main.file : Str) == fl_WrongMark_init) = true)
    (mr_WrongMark : PySem.W.mroIn K C_WrongMark (.ref C_WrongMark) = some true) (sv_WrongMark : PySem.W.subIn K (.ref C_WrongMark) (.type "ValueError") = some true) (sm_WrongMark : PySem.W.ks_superIn K C_WrongMark C_WrongMark "__init__" = some (some (.builtin "ValueError.__init__"))) (op_WrongMark : PySem.W.nsIn K cStatics "thirdparty.any" = some none) (tp_WrongMark : (l.prog.main.scope.names.lookup ("super" : Str)).isSome = false)
    (n_WrongMark_mark : PySem.W.findIn K (.ref C_WrongMark) "mark" = some none)
    (e_WrongMark_WrongMark : PySem.W.subIn K (.ref C_WrongMark) (.ref C_WrongMark) = some true)
    (z_super : PySem.W.nsIn K mainGlobals "super" = some none)
    (z_tuple : PySem.W.nsIn K mainGlobals "tuple" = some none)
    (z_zip : PySem.W.nsIn K mainGlobals "zip" = some none)
    (z_len : PySem.W.nsIn K mainGlobals "len" = some none)
    (z_int : PySem.W.nsIn K mainGlobals "int" = some none)
    (z_isinstance : PySem.W.nsIn K mainGlobals "isinstance" = some none)
    (z_bool : PySem.W.nsIn K mainGlobals "bool" = some none)
    (z_sum : PySem.W.nsIn K mainGlobals "sum" = some none)
    (z_range : PySem.W.nsIn K mainGlobals "range" = some none)
    (z_min : PySem.W.nsIn K mainGlobals "min" = some none)
    (z_max : PySem.W.nsIn K mainGlobals "max" = some none)
    (z_abs : PySem.W.nsIn K mainGlobals "abs" = some none)
    (z_all : PySem.W.nsIn K mainGlobals "all" = some none)
    {a_MARKS : Addr} {od_MARKS : Option Addr} {it_MARKS : Array Value} {nn_MARKS : Nat} {sl_MARKS : Array (Option Value)}
    (n_MARKS : PySem.W.nsIn K mainGlobals "MARKS" = some (some (.ref a_MARKS))) (l_MARKS : K.lookup a_MARKS = some ⟨.type "tuple", od_MARKS, .seq it_MARKS nn_MARKS, sl_MARKS⟩)
    (y_MARKS : it_MARKS.size ≤ sizeLine) (v_MARKS : Vals [.str "plus", .str "times", .str "leads", .str "and", .str "or", .str "same"] it_MARKS.toList)
    {a_SIDES : Addr} {od_SIDES : Option Addr} {it_SIDES : Array Value} {nn_SIDES : Nat} {sl_SIDES : Array (Option Value)}
    (n_SIDES : PySem.W.nsIn K mainGlobals "SIDES" = some (some (.ref a_SIDES))) (l_SIDES : K.lookup a_SIDES = some ⟨.type "tuple", od_SIDES, .seq it_SIDES nn_SIDES, sl_SIDES⟩)
    (y_SIDES : it_SIDES.size ≤ sizeLine) (v_SIDES : Vals [.str "least", .str "most"] it_SIDES.toList) :
    ∃ fd : FuncData, (∀ (s : Shared) (v : Value), BindsTo s fd ⟨[v], []⟩ [("script", v)]) ∧ ∀ base : Heap, K.In base → base.Ns mainGlobals mg → FnOk l.prog w K mg base CX0 10 fa fd ["script"] (spLaw K) := by
  have e := hfa.symm.trans (PySem.W.mg_of X G a21)
  cases e
  have F1 := fun_mk (st := s_constant) l1 c1 k1
  have F2 := fun_mk (st := s_added) l2 c2 k2
  have F3 := fun_mk (st := s_less) l3 c3 k3
  have F4 := fun_mk (st := s_opposite) l4 c4 k4
  have F5 := fun_mk (st := s_one_less) l5 c5 k5
  have F6 := fun_mk (st := s_question_of) l6 c6 k6
  have F7 := fun_mk (st := s_form_by_side) l7 c7 k7
  have F8 := fun_mk (st := s_least_form) l8 c8 k8
  have F9 := fun_mk (st := s_most_form) l9 c9 k9
  have F10 := fun_mk (st := s_law_begun) l10 c10 k10
  have F11 := fun_mk (st := s_law_draw) l11 c11 k11
  have F12 := fun_mk (st := s_law_of) l12 c12 k12
  have F13 := fun_mk (st := s_law_whole) l13 c13 k13
  have F14 := fun_mk (st := s_law_less) l14 c14 k14
  have F15 := fun_mk (st := s_law_ask) l15 c15 k15
  have F16 := fun_mk (st := s_law_on) l16 c16 k16
  have F17 := fun_mk (st := s_law_form) l17 c17 k17
  have F18 := fun_mk (st := s_law_given) l18 c18 k18
  have F19 := fun_mk (st := s_law_tried) l19 c19 k19
  have F20 := fun_mk (st := s_law_refused) l20 c20 k20
  have F21 := fun_mk (st := s_law) l21 c21 k21
  have b1 := F1.binds (ps := ["number", "count"]) fun _ _ _ _ _ _ us hl => match us, hl with | [_, _], _ => rfl
  have b2 := F2.binds (ps := ["first", "second"]) fun _ _ _ _ _ _ us hl => match us, hl with | [_, _], _ => rfl
  have b3 := F3.binds (ps := ["first", "second"]) fun _ _ _ _ _ _ us hl => match us, hl with | [_, _], _ => rfl
  have b4 := F4.binds (ps := ["form"]) fun _ _ _ _ _ _ us hl => match us, hl with | [_], _ => rfl
  have b5 := F5.binds (ps := ["form"]) fun _ _ _ _ _ _ us hl => match us, hl with | [_], _ => rfl
  have b6 := F6.binds (ps := ["mark", "first", "second"]) fun _ _ _ _ _ _ us hl => match us, hl with | [_, _, _], _ => rfl
  have b7 := F7.binds (ps := ["mark", "side", "first", "second"]) fun _ _ _ _ _ _ us hl => match us, hl with | [_, _, _, _], _ => rfl
  have b8 := F8.binds (ps := ["mark", "question", "first", "second"]) fun _ _ _ _ _ _ us hl => match us, hl with | [_, _, _, _], _ => rfl
  have b9 := F9.binds (ps := ["mark", "question", "first", "second"]) fun _ _ _ _ _ _ us hl => match us, hl with | [_, _, _, _], _ => rfl
  have b10 := F10.binds (ps := ["script", "k"]) fun _ _ _ _ _ _ us hl => match us, hl with | [_, _], _ => rfl
  have b11 := F11.binds (ps := ["m", "below"]) fun _ _ _ _ _ _ us hl => match us, hl with | [_, _], _ => rfl
  have b12 := F12.binds (ps := ["m", "some"]) fun _ _ _ _ _ _ us hl => match us, hl with | [_, _], _ => rfl
  have b13 := F13.binds (ps := ["value"]) fun _ _ _ _ _ _ us hl => match us, hl with | [_], _ => rfl
  have b14 := F14.binds (ps := ["one", "two"]) fun _ _ _ _ _ _ us hl => match us, hl with | [_, _], _ => rfl
  have b15 := F15.binds (ps := ["mark", "one", "two"]) fun _ _ _ _ _ _ us hl => match us, hl with | [_, _, _], _ => rfl
  have b16 := F16.binds (ps := ["form", "spot"]) fun _ _ _ _ _ _ us hl => match us, hl with | [_, _], _ => rfl
  have b17 := F17.binds (ps := ["m", "size", "great"]) fun _ _ _ _ _ _ us hl => match us, hl with | [_, _, _], _ => rfl
  have b18 := F18.binds (ps := ["mark", "one", "two", "whole"]) fun _ _ _ _ _ _ us hl => match us, hl with | [_, _, _, _], _ => rfl
  have b19 := F19.binds (ps := ["mark", "side", "one", "two"]) fun _ _ _ _ _ _ us hl => match us, hl with | [_, _, _, _], _ => rfl
  have b20 := F20.binds (ps := ["mark", "one", "two"]) fun _ _ _ _ _ _ us hl => match us, hl with | [_, _, _], _ => rfl
  have F_WrongMark_init : SupFun l.prog K C_WrongMark "WrongMark.__init__" s_WrongMark_init f_WrongMark_init _ := ⟨⟨_, _, _, _, _, _, _, _, _, _, rfl, l_WrongMark_init, c_WrongMark_init, ⟨_, _, _, lc_WrongMark_init⟩, ⟨_, _, _, _, _, _, lv_WrongMark_init, v2_WrongMark_init, fe_WrongMark_init⟩⟩, k_WrongMark_init⟩
  have b_WrongMark_init : Binds K _ ["self", "mark"] [] := Binds.all (fd := PySem.W.ksFn "__init__" "WrongMark.__init__" (defArgs s_WrongMark_init) (defBody s_WrongMark_init) (defScope s_WrongMark_init) .none kV_WrongMark_init dc_WrongMark_init pm_WrongMark_init an_WrongMark_init (.ref ca_WrongMark_init) ct_WrongMark_init cc_WrongMark_init) fun us hl => match us, hl with | [_, _], _ => rfl
  have S_WrongMark : SupC l.prog K C_WrongMark := ⟨Option.isSome_iff_exists.mp (clsIn_exc l_WrongMark), mr_WrongMark, sv_WrongMark, sm_WrongMark, op_WrongMark, tp_WrongMark⟩
  have T : Txt l.prog K mg := {
    f_constant := f1,
    d_constant := _,
    F_constant := F1,
    b_constant := b1,
    g_constant := PySem.W.mg_of X G a1,
    f_added := f2,
    d_added := _,
    F_added := F2,
    b_added := b2,
    g_added := PySem.W.mg_of X G a2,
    f_less := f3,
    d_less := _,
    F_less := F3,
    b_less := b3,
    g_less := PySem.W.mg_of X G a3,
    f_opposite := f4,
    d_opposite := _,
    F_opposite := F4,
    b_opposite := b4,
    g_opposite := PySem.W.mg_of X G a4,
    f_one_less := f5,
    d_one_less := _,
    F_one_less := F5,
    b_one_less := b5,
    g_one_less := PySem.W.mg_of X G a5,
    f_question_of := f6,
    d_question_of := _,
    F_question_of := F6,
    b_question_of := b6,
    g_question_of := PySem.W.mg_of X G a6,
    f_form_by_side := f7,
    d_form_by_side := _,
    F_form_by_side := F7,
    b_form_by_side := b7,
    g_form_by_side := PySem.W.mg_of X G a7,
    f_least_form := f8,
    d_least_form := _,
    F_least_form := F8,
    b_least_form := b8,
    g_least_form := PySem.W.mg_of X G a8,
    f_most_form := f9,
    d_most_form := _,
    F_most_form := F9,
    b_most_form := b9,
    g_most_form := PySem.W.mg_of X G a9,
    f_law_begun := f10,
    d_law_begun := _,
    F_law_begun := F10,
    b_law_begun := b10,
    g_law_begun := PySem.W.mg_of X G a10,
    f_law_draw := f11,
    d_law_draw := _,
    F_law_draw := F11,
    b_law_draw := b11,
    g_law_draw := PySem.W.mg_of X G a11,
    f_law_of := f12,
    d_law_of := _,
    F_law_of := F12,
    b_law_of := b12,
    g_law_of := PySem.W.mg_of X G a12,
    f_law_whole := f13,
    d_law_whole := _,
    F_law_whole := F13,
    b_law_whole := b13,
    g_law_whole := PySem.W.mg_of X G a13,
    f_law_less := f14,
    d_law_less := _,
    F_law_less := F14,
    b_law_less := b14,
    g_law_less := PySem.W.mg_of X G a14,
    f_law_ask := f15,
    d_law_ask := _,
    F_law_ask := F15,
    b_law_ask := b15,
    g_law_ask := PySem.W.mg_of X G a15,
    f_law_on := f16,
    d_law_on := _,
    F_law_on := F16,
    b_law_on := b16,
    g_law_on := PySem.W.mg_of X G a16,
    f_law_form := f17,
    d_law_form := _,
    F_law_form := F17,
    b_law_form := b17,
    g_law_form := PySem.W.mg_of X G a17,
    f_law_given := f18,
    d_law_given := _,
    F_law_given := F18,
    b_law_given := b18,
    g_law_given := PySem.W.mg_of X G a18,
    f_law_tried := f19,
    d_law_tried := _,
    F_law_tried := F19,
    b_law_tried := b19,
    g_law_tried := PySem.W.mg_of X G a19,
    f_law_refused := f20,
    d_law_refused := _,
    F_law_refused := F20,
    b_law_refused := b20,
    g_law_refused := PySem.W.mg_of X G a20,
    S_WrongMark := S_WrongMark,
    C_WrongMark := C_WrongMark,
    m_WrongMark := PySem.W.mg_of X G m_WrongMark,
    o_WrongMark := ⟨⟨_, _, _, _, _, _, _, _, _, _, _, _, _, _, _, l_WrongMark, h_WrongMark⟩, sa_WrongMark, xc_WrongMark, ty_WrongMark, kp_WrongMark⟩,
    x_WrongMark := ⟨ga_WrongMark, gg_WrongMark, xc_WrongMark, hd_WrongMark⟩,
    f_WrongMark_init := f_WrongMark_init,
    d_WrongMark_init := _,
    F_WrongMark_init := F_WrongMark_init,
    b_WrongMark_init := b_WrongMark_init,
    i_WrongMark := i_WrongMark,
    t_WrongMark := t_WrongMark,
    n_WrongMark_mark := n_WrongMark_mark,
    e_WrongMark_WrongMark := exm_of (clsIn_exc l_WrongMark) ty_WrongMark xc_WrongMark e_WrongMark_WrongMark,
    z_super := PySem.W.mg_none_of X G z_super,
    z_tuple := PySem.W.mg_none_of X G z_tuple,
    z_zip := PySem.W.mg_none_of X G z_zip,
    z_len := PySem.W.mg_none_of X G z_len,
    z_int := PySem.W.mg_none_of X G z_int,
    z_isinstance := PySem.W.mg_none_of X G z_isinstance,
    z_bool := PySem.W.mg_none_of X G z_bool,
    z_sum := PySem.W.mg_none_of X G z_sum,
    z_range := PySem.W.mg_none_of X G z_range,
    z_min := PySem.W.mg_none_of X G z_min,
    z_max := PySem.W.mg_none_of X G z_max,
    z_abs := PySem.W.mg_none_of X G z_abs,
    z_all := PySem.W.mg_none_of X G z_all,
    a_MARKS := a_MARKS,
    c_MARKS := PySem.W.mg_of X G n_MARKS,
    t_MARKS := fun H => .inr ⟨_, it_MARKS, nn_MARKS, l_MARKS, rfl, rfl, y_MARKS, v_MARKS⟩,
    a_SIDES := a_SIDES,
    c_SIDES := PySem.W.mg_of X G n_SIDES,
    t_SIDES := fun H => .inr ⟨_, it_SIDES, nn_SIDES, l_SIDES, rfl, rfl, y_SIDES, v_SIDES⟩ }
  exact ⟨_, fun s v => .of_eq rfl, fun base _ _ => ok_law T F21⟩
theorem walk {l : PySem.W.OpenLaw} {q : Program} {loose : List Str} {XP : (Str → Option Value) → Heap → Prop} {YP : World → Heap → Prop}
    {d : DefRec} {K : Params → PySem.W.Frag} (hn : l.most = some 63) (hdf : d.params.defaults = [])
    (hY : ∀ (w : World) (h : Heap), YP w h → (K w.params).In h)
    (F : ∀ (w : World) (mg : Str → Option Value) (fa : Addr) (h : Heap), (K w.params).In h → h.Ns mainGlobals mg → mg d.name = some (.ref fa) →
      ∃ fd : FuncData, (∀ (s : Shared) (u : Value), BindsTo s fd ⟨[u], []⟩ [("script", u)]) ∧
        ∀ base : Heap, (K w.params).In base → base.Ns mainGlobals mg → FnOk l.prog w (K w.params) mg base CX0 10 fa fd ["script"] (spLaw (K w.params))) :
    PySem.W.WalkO q loose XP YP l.row.toRowW d [] (fun f vs => PySem.call f vs) :=
  L2.walk_of (n := 63) (k := 10) (x := "script") (CX := fun _ => CX0) (sp := fun w => spLaw (K w.params)) hn (by decide) hdf ⟨rfl, by decide, by decide⟩ hY F (fun _ _ a ns hl _ hS => ⟨a, ns, rfl, hS, hl, fun _ => rfl⟩) fun _ _ _ _ _ z => z
end Lw
open PySem PySem.W PyProof.Rows in
set_option maxRecDepth 100000 in
set_option maxHeartbeats 0 in
theorem PySem.Challenge.cw_halftruths_k06_questions_and_sides_holds : PySem.Challenge.rw_halftruths_k06_questions_and_sides.Holds := by
  w_on; o_law; k_head; (case hw => w_witness2)
  k_fill
  refine Lw.walk (l := PySem.Challenge.rw_halftruths_k06_questions_and_sides) rfl rfl (fun w h Y => PySem.W.kIn_of Y) ?F
  case F =>
    intro w mg fa h KX G hmg
    refine' Lw.all_mk KX G hmg ?a1 ?l1 ?c1 ?k1 ?a2 ?l2 ?c2 ?k2 ?a3 ?l3 ?c3 ?k3 ?a4 ?l4 ?c4 ?k4 ?a5 ?l5 ?c5 ?k5 ?a6 ?l6 ?c6 ?k6 ?a7 ?l7 ?c7 ?k7 ?a8 ?l8 ?c8 ?k8 ?a9 ?l9 ?c9 ?k9 ?a10 ?l10 ?c10 ?k10 ?a11 ?l11 ?c11 ?k11 ?a12 ?l12 ?c12 ?k12 ?a13 ?l13 ?c13 ?k13 ?a14 ?l14 ?c14 ?k14 ?a15 ?l15 ?c15 ?k15 ?a16 ?l16 ?c16 ?k16 ?a17 ?l17 ?c17 ?k17 ?a18 ?l18 ?c18 ?k18 ?a19 ?l19 ?c19 ?k19 ?a20 ?l20 ?c20 ?k20 ?a21 ?l21 ?c21 ?k21 ?m_WrongMark ?l_WrongMark ?h_WrongMark ?sa_WrongMark ?xc_WrongMark ?ty_WrongMark ?kp_WrongMark ?ga_WrongMark ?gg_WrongMark ?hd_WrongMark ?i_WrongMark ?t_WrongMark ?l_WrongMark_init ?c_WrongMark_init ?k_WrongMark_init ?lc_WrongMark_init ?lv_WrongMark_init ?v2_WrongMark_init ?fe_WrongMark_init ?mr_WrongMark ?sv_WrongMark ?sm_WrongMark ?op_WrongMark ?tp_WrongMark ?n_WrongMark_mark ?e_WrongMark_WrongMark ?z_super ?z_tuple ?z_zip ?z_len ?z_int ?z_isinstance ?z_bool ?z_sum ?z_range ?z_min ?z_max ?z_abs ?z_all ?n_MARKS ?l_MARKS ?y_MARKS ?v_MARKS ?n_SIDES ?l_SIDES ?y_SIDES ?v_SIDES
    (case a1 => k_is)
    (case l1 => k_is)
    (case c1 => k_is)
    (case k1 => k_is)
    (case a2 => k_is)
    (case l2 => k_is)
    (case c2 => k_is)
    (case k2 => k_is)
    (case a3 => k_is)
    (case l3 => k_is)
    (case c3 => k_is)
    (case k3 => k_is)
    (case a4 => k_is)
    (case l4 => k_is)
    (case c4 => k_is)
    (case k4 => k_is)
    (case a5 => k_is)
    (case l5 => k_is)
    (case c5 => k_is)
    (case k5 => k_is)
    (case a6 => k_is)
    (case l6 => k_is)
    (case c6 => k_is)
    (case k6 => k_is)
    (case a7 => k_is)
    (case l7 => k_is)
    (case c7 => k_is)
    (case k7 => k_is)
    (case a8 => k_is)
    (case l8 => k_is)
    (case c8 => k_is)
    (case k8 => k_is)
    (case a9 => k_is)
    (case l9 => k_is)
    (case c9 => k_is)
    (case k9 => k_is)
    (case a10 => k_is)
    (case l10 => k_is)
    (case c10 => k_is)
    (case k10 => k_is)
    (case a11 => k_is)
    (case l11 => k_is)
    (case c11 => k_is)
    (case k11 => k_is)
    (case a12 => k_is)
    (case l12 => k_is)
    (case c12 => k_is)
    (case k12 => k_is)
    (case a13 => k_is)
    (case l13 => k_is)
    (case c13 => k_is)
    (case k13 => k_is)
    (case a14 => k_is)
    (case l14 => k_is)
    (case c14 => k_is)
    (case k14 => k_is)
    (case a15 => k_is)
    (case l15 => k_is)
    (case c15 => k_is)
    (case k15 => k_is)
    (case a16 => k_is)
    (case l16 => k_is)
    (case c16 => k_is)
    (case k16 => k_is)
    (case a17 => k_is)
    (case l17 => k_is)
    (case c17 => k_is)
    (case k17 => k_is)
    (case a18 => k_is)
    (case l18 => k_is)
    (case c18 => k_is)
    (case k18 => k_is)
    (case a19 => k_is)
    (case l19 => k_is)
    (case c19 => k_is)
    (case k19 => k_is)
    (case a20 => k_is)
    (case l20 => k_is)
    (case c20 => k_is)
    (case k20 => k_is)
    (case a21 => k_is)
    (case l21 => k_is)
    (case c21 => k_is)
    (case k21 => k_is)
    (case m_WrongMark => k_is)
    (case l_WrongMark => k_is)
    (case h_WrongMark => rfl)
    (case sa_WrongMark => k_is)
    (case xc_WrongMark => k_is)
    (case ty_WrongMark => k_is)
    (case kp_WrongMark => k_is)
    (case ga_WrongMark => k_is)
    (case gg_WrongMark => k_is)
    (case hd_WrongMark => k_is)
    (case i_WrongMark => k_is)
    (case t_WrongMark => k_is)
    (case l_WrongMark_init => k_is)
    (case c_WrongMark_init => k_is)
    (case k_WrongMark_init => k_is)
    (case lc_WrongMark_init => k_is)
    (case lv_WrongMark_init => k_is)
    (case v2_WrongMark_init => rfl)
    (case fe_WrongMark_init => first | rfl | decide +kernel)
    (case mr_WrongMark => k_is)
    (case sv_WrongMark => k_is)
    (case sm_WrongMark => first | ks_is | k_is)
    (case op_WrongMark => k_is)
    (case tp_WrongMark => decide +kernel)
    (case n_WrongMark_mark => k_is)
    (case e_WrongMark_WrongMark => k_is)
    (case z_super => k_is)
    (case z_tuple => k_is)
    (case z_zip => k_is)
    (case z_len => k_is)
    (case z_int => k_is)
    (case z_isinstance => k_is)
    (case z_bool => k_is)
    (case z_sum => k_is)
    (case z_range => k_is)
    (case z_min => k_is)
    (case z_max => k_is)
    (case z_abs => k_is)
    (case z_all => k_is)
    (case n_MARKS => k_is)
    (case l_MARKS => k_is)
    (case y_MARKS => show _ ≤ sizeLine; rw [sizeLine_eq]; decide)
    (case v_MARKS => exact .cons ⟨_, rfl⟩ (.cons ⟨_, rfl⟩ (.cons ⟨_, rfl⟩ (.cons ⟨_, rfl⟩ (.cons ⟨_, rfl⟩ (.cons ⟨_, rfl⟩ (.nil)))))))
    (case n_SIDES => k_is)
    (case l_SIDES => k_is)
    (case y_SIDES => show _ ≤ sizeLine; rw [sizeLine_eq]; decide)
    (case v_SIDES => exact .cons ⟨_, rfl⟩ (.cons ⟨_, rfl⟩ (.nil)))
#print axioms PySem.Challenge.cw_halftruths_k06_questions_and_sides_holds
